import PyProof.Rows.All
import Wide.All
import OpenK.AllK
import Wide.FinOn
import HandS.ForMost
import HandS.Wide
import HandS.IsInst
import HandS.EndBits
import HandS.Defaults
import HandS.Star
import HandS.Style
import HandS.Codes
import HandS.Conv
import PyProof.ReprBulk
import HandS.SetFor
import HandS.Strs
import PySem.Challenge.RW_breadcrumbs_k02_walks_and_trails_of_site
set_option Elab.async false
set_option linter.all false
set_option maxRecDepth 100000
/-! own rules: defs that may show data by repr, great powers, sets, calls by names alone -/
namespace Vf
open PySem PySem.Spec PyProof.Rows L2

/-! ### a def whose callers stand in no repr -/
structure FnG (P : Program) (w : World) (K : PySem.W.Frag) (mg : Str → Option Value) (base : Heap)
    (CX : CXT) (k : Nat) (f : Addr) (fd : FuncData) (ps : List Str) (sp : Sp) : Prop where
  len : ∀ vs H Q E, sp vs H Q E → vs.length = ps.length
  run : ∀ (A : Around), A.guards = some [] → Room k A →
    ∀ (outer : List Env) (s : Shared) (H : Hp) (args : Args) (us : List Value) (vs : List V) (Q : VK) (E : XK),
      Env0 P w K mg base A outer s H → BindsTo s fd args (ps.zip us) → Vals vs us → sp vs H Q E →
      codeAny (model P w) A (.call (.ref f) args) (CR CX outer P w H s Q E) s

section
variable {CX : CXT} {P : Program} {w : World} {K : PySem.W.Frag} {mg : Str → Option Value} {base : Heap} {k : Nat}
theorem FnG.of {f : Addr} {fd : FuncData} {ps : List Str} {sp : Sp}
    (F : FnOk P w K mg base CX k f fd ps sp) : FnG P w K mg base CX k f fd ps sp where
  len := F.len
  run := fun A _ hr outer s H args us vs Q E => F.run A outer s H args us vs Q E hr
theorem FnG.mono {j : Nat} {f : Addr} {fd : FuncData} {ps : List Str} {sp : Sp}
    (F : FnG P w K mg base CX j f fd ps sp) (h : j ≤ k) : FnG P w K mg base CX k f fd ps sp where
  len := F.len
  run := fun A g hr => F.run A g (hr.mono h)

/-- a def's body, run where the guards are known to be none -/
theorem Fun_okG {x qual : Str} {st : Stmt} {f : Addr} {fd : FuncData} {N ps : List Str} {sp : Sp}
    (F : Fun K x qual st f fd) (S : FnScope N ps (defScope st)) (len : ∀ vs H Q E, sp vs H Q E → vs.length = ps.length)
    (body : ∀ (cdv : Value) (A : Around) (outer : List Env) (s : Shared) (H : Hp) (vs : List V) (Q : VK) (E : XK),
      A.guards = some [] → Room k (A.deeper (envOfC qual (defScope st) s.heap.objs.size f cdv)) → sp vs H Q E →
      ∃ t, PSs (cxOf CX P w K mg base N qual (defScope st) f cdv A outer s H E).nox (defBody st) t ∧
        t { nx := fun _ H' => Q .non H', rt := Q } (start N vs) H) :
    FnG P w K mg base CX (k + 1) f fd ps sp := by
  obtain ⟨oc, od, kV, doc, pm, an, cdv, ct, osl, rfl, lk, hcd⟩ := F.ex
  refine ⟨len, fun A hg hr outer s H args us vs Q E e0 hb r hsp => ?_⟩
  have KX : K.In s.heap := e0.mod.kin.keeps fun b o e => (e0.bs b o e).1
  have hkind : ∀ y ∈ ps.zip us, (defScope st).names.lookup y.1 = some .local ∨
      ((defScope st).names.lookup y.1 = some .cell ∧
        ((cellsFrom (s.heap.objs.size + 1) (defScope st).names []).lookup y.1).isSome = true) := by
    rintro ⟨n, v⟩ hy
    rcases S.par n (List.of_mem_zip hy).1 with q | q
    · exact Or.inl q
    · exact Or.inr ⟨q, PySem.W.cellsFrom_some _ _ _ (Or.inl q)⟩
  refine codeAny_call_function hr.depth (KX _ _ lk) rfl S.co S.gen rfl (PySem.W.codeRec_of KX hcd)
    (hb _ _ _ _ (wpAny_newFunctionEnv_cells S.kind hkind fun env he s1 x => ?_))
  subst he
  refine ⟨(e0.mod.nolimit.keeps fun b o e => (e0.bs b o e).1).keeps x.toInCall.keep, codeAny_func ?_⟩
  obtain ⟨t, ht, hq⟩ := body cdv A outer s H vs Q E hg (hr.deeper _) hsp
  have I := inv_start (CX := CX) (E := E) S hr.hd e0 (len _ _ _ _ hsp) r x
  refine wpAny_mono (ht.nox.run [] s1 (start N vs) H _ I hq) (fun fl s' hs => ?_) (fun e s' hs => hs)
  have fin : ∀ {σ' : L2.St} {H' : Hp} {v : V} {u : Value}, Inv (cxOf CX P w K mg base N qual (defScope st) f cdv A outer s H E) [] σ' H' s' →
      RelV v u → Q v H' → CE outer P w H s Q u s' := fun {σ' H' v u} J rv q =>
    ⟨v, H', J.os, J.bare, J.base, J.hok, rv, q⟩
  match fl, hs with
  | .ret u, ⟨v, σ', H', J, rv, q⟩ => exact fin J rv q
  | .next, ⟨σ', H', J, q⟩ => exact fin (v := V.non) (u := Value.none) J rfl q
  | .brk, ⟨_, _, _, q⟩ => exact q.elim
  | .cont, ⟨_, _, _, q⟩ => exact q.elim
end

/-! ### the call of such a def -/
section
variable {X : Cx} {CX : CXT} {k : Nat} {f : Addr} {fd : FuncData} {ps ks : List Str} {sp : Sp} {dvs : List V} {ds : List Value}
  {E : XK} {x : Str} {p pos : Pos} {e : Expr} {es : List Expr} {kws : List Keyword} {t tk : TA}
theorem run_fnG {pins : List (Addr × Obj)} {σ : L2.St} {H : Hp} {s : Shared} {Q : VK} {us : List Value} {vs : List V}
    (F : FnG X.prog X.w X.K X.mg X.base CX k f fd ps sp) (hg : X.A.guards = some []) (hr : Room k X.A) (hb : Binds X.K fd ps ds)
    (hd : Vals dvs ds) (hx : Passes CX X E) (I : Inv X pins σ H s) (r : Vals vs us) (h : sp (vs ++ dvs) H Q E) :
    wpAny (model X.prog X.w) X.A (call (.ref f) us) (EP X pins σ Q) X.xe s := by
  have r2 : Vals (vs ++ dvs) (us ++ ds) := Vals.append r hd
  have hl : (us ++ ds).length = ps.length := r2.length ▸ F.len _ _ _ _ h
  refine wpAny_call (codeAny_mono (F.run X.A hg hr X.stack s H ⟨us, []⟩ (us ++ ds) (vs ++ dvs) Q E I.env0 (hb s us I.kIn hl) r2 h) fun res s' hq => ?_)
  match res, hq with
  | .error e, hq => exact hx pins σ H s e s' I hq
  | .ok (.ret u), hq => exact I.after hq
  | .ok .next, hq => exact hq.elim
  | .ok .brk, hq => exact hq.elim
  | .ok .cont, hq => exact hq.elim
theorem pe_callG (F : FnG X.prog X.w X.K X.mg X.base CX k f fd ps sp) (hG : X.A.guards = some []) (hr : Room k X.A)
    (hg : Gl X x) (hm : X.mg x = some (.ref f)) (hk : PySem.W.keepIn X.K (.ref f) = true) (hb : Binds X.K fd ps ds)
    (hd : Vals dvs ds) (hx : Passes CX X E) (ha : PA X (e :: es) t)
    (hdb : (x == ("__debug__" : Str)) = false := by decide)
    (he : starEach (e :: es) X.env = (false, eval e X.env) :: starEach es X.env := by rfl)
    (hpl : (backTo pos (starEach es X.env)).any (·.1) = false := by rfl) :
    PE X (.Call (.Name x p) (e :: es) [] pos) (tCall sp dvs E t) :=
  ⟨fun pins s σ H Q I h => wpAny_Call_Name_kw (ld_glob I hg hm
    (PySem.W.callWith_K (h₀ := X.base) I.ok.mod.kin hk (thn (ha.run pos pins s σ H _ I h)
      fun us s1 ⟨vs, H1, I1, r, q⟩ => ⟨I1.kIn, run_fnG F hG hr hb hd hx I1 r q⟩) he hpl) hdb)⟩

/-- f(k = v, ..), nothing by place -/
def tCallK0 (sp : Sp) (gV : List V → List V) (E : XK) (tk : TA) : TE := fun σ H Q => tk σ H fun zs H2 => sp (gV zs) H2 Q E
structure KBinds0 (K : PySem.W.Frag) (fd : FuncData) (ps ks : List Str) (gV : List V → List V) : Prop where
  to : ∀ (s : Shared) (zs : List V) (ws : List Value), K.In s.heap → Vals zs ws → (gV zs).length = ps.length →
    ∃ us : List Value, Vals (gV zs) us ∧ BindsTo s fd ⟨[], ks.zip ws⟩ (ps.zip us)
theorem pe_callK0 {gV : List V → List V} (F : FnOk X.prog X.w X.K X.mg X.base CX k f fd ps sp) (hr : Room k X.A)
    (hg : Gl X x) (hm : X.mg x = some (.ref f)) (hk : PySem.W.keepIn X.K (.ref f) = true) (hb : KBinds0 X.K fd ps ks gV)
    (hx : Passes CX X E) (hkw : PK X kws tk) (hall : (backToKw pos (keywordEach kws X.env)).all (·.1.isSome) = true := by rfl)
    (hks : (backToKw pos (keywordEach kws X.env)).filterMap (·.1) = ks := by rfl) (hdb : (x == ("__debug__" : Str)) = false := by decide)
    (hpl : ((backTo pos (starEach [] X.env)).any (·.1) || (backToKw pos (keywordEach kws X.env)).any (·.1.isNone)) = false := by rfl) :
    PE X (.Call (.Name x p) [] kws pos) (tCallK0 sp gV E tk) := by
  refine ⟨fun pins s σ H Q I h => wpAny_Call_Name_kw (ld_glob I hg hm ?_ hdb)⟩
  refine PySem.W.callWith_KW0 (h₀ := X.base) I.ok.mod.kin hk hall (thn (hkw.run pos pins s σ H _ I h) fun ws s2 ⟨zs, H2, I2, rz, q2⟩ => ⟨I2.kIn, ?_⟩) hpl
  rw [hks]
  obtain ⟨us, r, hbt⟩ := hb.to s2 zs ws I2.kIn rz (F.len _ _ _ _ q2)
  refine wpAny_call (codeAny_mono (F.run X.A X.stack s2 H2 ⟨[], ks.zip ws⟩ us (gV zs) Q E hr I2.env0 hbt r q2) fun res s' hq => ?_)
  match res, hq with
  | .error e, hq => exact hx pins σ H2 s2 e s' I2 hq
  | .ok (.ret u), hq => exact I2.after hq
  | .ok .next, hq => exact hq.elim
  | .ok .brk, hq => exact hq.elim
  | .ok .cont, hq => exact hq.elim
end

/-! ### operators -/
section
variable {X : Cx}
def CPowG (i j : Int) : Prop := 0 ≤ j ∧ (Builtin.Int.intBits i : Int) * j ≤ 2 ^ 27
theorem op_powG : OpR X (binaryOp .Pow) (rI CPowG fun i j => .int (i ^ j.toNat)) :=
  opI fun _ _ _ _ _ _ _ hc q => pow_int hc.1 hc.2 q
theorem cube_ok {i : Int} {n : Nat} (h : i.natAbs < 2 ^ n) (hn : n ≤ 1000000) : CPowG i 3 := by
  refine ⟨by decide, ?_⟩
  have b : Builtin.Int.intBits i ≤ n + 1 := by
    unfold Builtin.Int.intBits
    split
    · omega
    · rename_i h0
      have hz : i.natAbs ≠ 0 := fun z => h0 (by rw [Int.natAbs_eq_zero.mp z]; rfl)
      have := (Nat.log2_lt hz).mpr h
      omega
  have e : (2 : Int) ^ 27 = 134217728 := by decide
  rw [e]
  omega

/-- repr(x), x a list or a tuple of data -/
def rShow (K : PySem.W.Frag) : List V → Hp → VK → Prop := fun xs H Q => ∃ (a : Addr) (d : PyData), xs = [.ref a] ∧ Dp K H (.ref a) d ∧
  d.showable = true ∧ d.hasDict = false ∧ d.depth ≤ 100 ∧ d.shown.length ≤ sizeLine ∧ Q (.str d.shown) H
theorem call_show (hG : X.A.guards = some []) (hu : X.A.units + 200 < cLine) : CallR X (.builtin "repr") (rShow X.K) := by
  intro pins s σ H xs us Q I r h
  obtain ⟨a, d, rfl, hd, h1, h2, h3, h4, q⟩ := h
  obtain ⟨u, rfl, rx⟩ := vals1 r
  obtain ⟨as, hr⟩ := Dp.reads I d _ u hd rx
  cases (show u = Value.ref a from rx)
  exact repr_of_reads' hr h1 (PyData.noDict_hsm h2) hG (by omega) (fun _ _ e => e)
    (fun h' u tk hk => ⟨.str d.shown, H, I.kept hk, ⟨_, rfl⟩, q⟩) h4
theorem units_of {k : Nat} {A : Around} (hr : Room k A) : A.units + 200 < cLine := by
  have := hr.un
  omega
end

/-! ### heaps -/
theorem same_new {H : Hp} {p : Addr} {o : HO} (h : H p = none) : Same H (upd H p o) := by
  intro b x e
  rw [upd_ne (ne_of_none e h)]
  exact e
/-- all but p is as it was -/
def But (p : Addr) (H H' : Hp) : Prop := ∀ b o, b ≠ p → H b = some o → H' b = some o
theorem But.refl (p : Addr) (H : Hp) : But p H H := fun _ _ _ e => e
theorem But.of_same {p : Addr} {H H' : Hp} (s : Same H H') : But p H H' := fun b o _ e => s b o e
theorem But.trans {p : Addr} {H H1 H2 : Hp} (a : But p H H1) (b : But p H1 H2) : But p H H2 := fun c o n e => b c o n (a c o n e)
theorem But.upd {p : Addr} {H : Hp} {o : HO} : But p H (upd H p o) := fun b x n e => by
  rw [upd_ne n]
  exact e
theorem But.seq {K : PySem.W.Frag} {p a : Addr} {H H' : Hp} {xs : List V} (s : But p H H') (n : a ≠ p) (h : SqL K H a xs) : SqL K H' a xs := by
  rcases h with (h | ⟨o, h⟩) | h
  · exact .inl (.inl (s _ _ n h))
  · exact .inl (.inr ⟨o, s _ _ n h⟩)
  · exact .inr h
theorem But.free {p l : Addr} {H H' : Hp} (s : But p H H') (n : l ≠ p) (h : H' l = none) : H l = none := by
  cases q : H l with
  | none => rfl
  | some o => exact absurd (s l o n q) (by rw [h]; exact fun z => nomatch z)

/-! ### kinds of values -/
/-- none, a bool, an int, a text, a list, a tuple, a dict -/
def Kn (H : Hp) : V → Prop
  | .non => True
  | .bl _ => True
  | .int _ => True
  | .str _ => True
  | .ref a => (∃ xs, H a = some (.lst xs)) ∨ (∃ xs, H a = some (.tup xs)) ∨ ∃ ks, H a = some (.dK ks)
  | _ => False
theorem Kn.same {H H' : Hp} (s : Same H H') : ∀ {x : V}, Kn H x → Kn H' x
  | .non, h => h
  | .bl _, h => h
  | .int _, h => h
  | .str _, h => h
  | .ref a, h => by
    rcases h with ⟨xs, e⟩ | ⟨xs, e⟩ | ⟨ks, e⟩
    · exact .inl ⟨xs, s _ _ e⟩
    · exact .inr (.inl ⟨xs, s _ _ e⟩)
    · exact .inr (.inr ⟨ks, s _ _ e⟩)
  | .byt _, h => h
  | .flt _, h => h
  | .ty _, h => h
def tyS (H : Hp) : V → String
  | .non => "NoneType"
  | .bl _ => "bool"
  | .int _ => "int"
  | .str _ => "str"
  | .ref a => match H a with
    | some (.lst _) => "list"
    | some (.tup _) => "tuple"
    | _ => "dict"
  | _ => ""
def isIB : V → Bool
  | .int _ => true
  | .bl _ => true
  | _ => false
def isBB : V → Bool
  | .bl _ => true
  | _ => false
def isI : V → Bool
  | .int _ => true
  | _ => false
def isLB (H : Hp) : V → Bool
  | .ref a => match H a with
    | some (.lst _) => true
    | _ => false
  | _ => false
theorem Kn.ty {K : PySem.W.Frag} {H : Hp} : ∀ {x : V}, Kn H x → TyX K H x (.type (tyS H x))
  | .non, _ => .base .non
  | .bl _, _ => .base (.bl _)
  | .int _, _ => .base (.int _)
  | .str _, _ => .base (.str _)
  | .ref a, h => by
    show TyX K H (.ref a) (.type (match H a with
      | some (.lst _) => "list"
      | some (.tup _) => "tuple"
      | _ => "dict"))
    rcases h with ⟨xs, e⟩ | ⟨xs, e⟩ | ⟨ks, e⟩
    · rw [e]; exact .base (.lst e)
    · rw [e]; exact .base (.tup e)
    · rw [e]; exact .base (.dK e)
theorem kit_int (H : Hp) : ∀ {x : V}, Kn H x → kitB (tyS H x) "int" = some (isIB x)
  | .non, _ => by
    show kitB "NoneType" "int" = some false
    decide +kernel
  | .bl _, _ => by
    show kitB "bool" "int" = some true
    decide +kernel
  | .int _, _ => by
    show kitB "int" "int" = some true
    decide +kernel
  | .str _, _ => by
    show kitB "str" "int" = some false
    decide +kernel
  | .ref a, h => by
    show kitB (match H a with
      | some (.lst _) => "list"
      | some (.tup _) => "tuple"
      | _ => "dict") "int" = some false
    rcases h with ⟨xs, e⟩ | ⟨xs, e⟩ | ⟨ks, e⟩
    · rw [e]
      show kitB "list" "int" = some false
      decide +kernel
    · rw [e]
      show kitB "tuple" "int" = some false
      decide +kernel
    · rw [e]
      show kitB "dict" "int" = some false
      decide +kernel
theorem kit_bool (H : Hp) : ∀ {x : V}, Kn H x → kitB (tyS H x) "bool" = some (isBB x)
  | .non, _ => by
    show kitB "NoneType" "bool" = some false
    decide +kernel
  | .bl _, _ => by
    show kitB "bool" "bool" = some true
    decide +kernel
  | .int _, _ => by
    show kitB "int" "bool" = some false
    decide +kernel
  | .str _, _ => by
    show kitB "str" "bool" = some false
    decide +kernel
  | .ref a, h => by
    show kitB (match H a with
      | some (.lst _) => "list"
      | some (.tup _) => "tuple"
      | _ => "dict") "bool" = some false
    rcases h with ⟨xs, e⟩ | ⟨xs, e⟩ | ⟨ks, e⟩
    · rw [e]
      show kitB "list" "bool" = some false
      decide +kernel
    · rw [e]
      show kitB "tuple" "bool" = some false
      decide +kernel
    · rw [e]
      show kitB "dict" "bool" = some false
      decide +kernel
theorem kit_list (H : Hp) : ∀ {x : V}, Kn H x → kitB (tyS H x) "list" = some (isLB H x)
  | .non, _ => by
    show kitB "NoneType" "list" = some false
    decide +kernel
  | .bl _, _ => by
    show kitB "bool" "list" = some false
    decide +kernel
  | .int _, _ => by
    show kitB "int" "list" = some false
    decide +kernel
  | .str _, _ => by
    show kitB "str" "list" = some false
    decide +kernel
  | .ref a, h => by
    show kitB (match H a with
      | some (.lst _) => "list"
      | some (.tup _) => "tuple"
      | _ => "dict") "list" = some (match H a with
      | some (.lst _) => true
      | _ => false)
    rcases h with ⟨xs, e⟩ | ⟨xs, e⟩ | ⟨ks, e⟩
    · rw [e]
      show kitB "list" "list" = some true
      decide +kernel
    · rw [e]
      show kitB "tuple" "list" = some false
      decide +kernel
    · rw [e]
      show kitB "dict" "list" = some false
      decide +kernel
section
variable {K : PySem.W.Frag} {H : Hp} {x : V} {Q : VK}
theorem isi_int (h : Kn H x) (q : Q (.bl (isIB x)) H) : rIsi K [x, .ty "int"] H Q := ⟨x, _, _, _, _, rfl, .ty _, h.ty, kit_ty (kit_int H h), q⟩
theorem isi_bool (h : Kn H x) (q : Q (.bl (isBB x)) H) : rIsi K [x, .ty "bool"] H Q := ⟨x, _, _, _, _, rfl, .ty _, h.ty, kit_ty (kit_bool H h), q⟩
theorem isi_list (h : Kn H x) (q : Q (.bl (isLB H x)) H) : rIsi K [x, .ty "list"] H Q := ⟨x, _, _, _, _, rfl, .ty _, h.ty, kit_ty (kit_list H h), q⟩
end
theorem isI_eq : ∀ x : V, isI x = (isIB x && !isBB x)
  | .non => rfl
  | .bl _ => rfl
  | .int _ => rfl
  | .str _ => rfl
  | .ref _ => rfl
  | .byt _ => rfl
  | .flt _ => rfl
  | .ty _ => rfl
theorem isI_of : ∀ {x : V}, isI x = true → ∃ i, x = .int i
  | .int i, _ => ⟨i, rfl⟩
def inRg (lo hi : Int) : V → Bool
  | .int i => decide (lo ≤ i) && decide (i ≤ hi)
  | _ => false
/-- a value to be judged: of a known kind, its items too -/
def OkV (H : Hp) (x : V) : Prop := Kn H x ∧ ∀ a xs, x = .ref a → H a = some (.lst xs) → xs.length ≤ 4000 ∧ ∀ y ∈ xs, Kn H y
def itemsB (f : List V → Bool) (H : Hp) : V → Bool
  | .ref a => match H a with
    | some (.lst xs) => f xs
    | _ => false
  | _ => false
theorem itemsB_lst {f : List V → Bool} {H : Hp} {a : Addr} {xs : List V} (e : H a = some (.lst xs)) : itemsB f H (.ref a) = f xs := by
  show (match H a with
    | some (.lst xs) => f xs
    | _ => false) = f xs
  rw [e]
theorem isLB_of {H : Hp} : ∀ {x : V}, isLB H x = true → ∃ a xs, x = .ref a ∧ H a = some (.lst xs)
  | .ref a, h => by
    have h' : (match H a with
      | some (.lst _) => true
      | _ => false) = true := h
    split at h'
    · rename_i xs e
      exact ⟨a, xs, rfl, e⟩
    · cases h'
theorem itemsB_no {f : List V → Bool} {H : Hp} : ∀ {x : V}, ¬ isLB H x = true → itemsB f H x = false
  | .non, _ => rfl
  | .bl _, _ => rfl
  | .int _, _ => rfl
  | .str _, _ => rfl
  | .byt _, _ => rfl
  | .flt _, _ => rfl
  | .ty _, _ => rfl
  | .ref a, h => by
    have h' : ¬ (match H a with
      | some (.lst _) => true
      | _ => false) = true := h
    show (match H a with
      | some (.lst xs) => f xs
      | _ => false) = false
    split
    · rename_i xs e
      rw [e] at h'
      exact absurd rfl h'
    · rfl
def pgsB (m : Int) (xs : List V) : Bool := xs.all (inRg 0 (m - 1))

/-! ### set(xs) of nums; its length -/
def met (ns : List Int) : Nat := (firstMet (fun i => ns.getD i 0) ns.length).length
theorem met_grow (val : Nat → Int) : ∀ n, (firstMet val n).length = n → ∀ i j, i < j → j < n → val i ≠ val j := by
  intro n
  induction n with
  | zero => intro _ i j _ h; omega
  | succ n ih =>
    intro h i j hij hj
    have hle := firstMet_length_le val n
    rw [firstMet_succ, step_length] at h
    have h1 : ¬ (firstMet val n).any (· == val n) = true := fun z => by
      rw [if_pos z] at h
      omega
    rw [if_neg h1] at h
    by_cases e : j = n
    · subst e
      intro z
      apply h1
      rw [firstMet_any]
      exact List.any_eq_true.mpr ⟨val i, List.mem_map.mpr ⟨i, List.mem_range.mpr hij, rfl⟩, beq_iff_eq.mpr z⟩
    · exact ih (by omega) i j hij (by omega)
theorem met_no (val : Nat → Int) : ∀ n, (∀ i j, i < j → j < n → val i ≠ val j) → (firstMet val n).length = n := by
  intro n
  induction n with
  | zero => intro _; rfl
  | succ n ih =>
    intro h
    have h0 := ih fun i j a b => h i j a (by omega)
    rw [firstMet_succ, step_length, if_neg, h0]
    intro z
    rw [firstMet_any] at z
    obtain ⟨y, hy, e⟩ := List.any_eq_true.mp z
    obtain ⟨i, hi, rfl⟩ := List.mem_map.mp hy
    exact h i n (List.mem_range.mp hi) (Nat.lt_succ_self n) (beq_iff_eq.mp e)
theorem met_iff (ns : List Int) : met ns = ns.length ↔ ns.Nodup := by
  have g : ∀ i, i < ns.length → ns.getD i 0 = ns[i]! := fun i hi => by
    rw [List.getD_eq_getElem?_getD, List.getElem?_eq_getElem hi, getElem!_pos ns i hi]
    rfl
  constructor
  · intro h
    refine List.pairwise_iff_getElem.mpr fun i j hi hj hij => ?_
    have := met_grow _ _ h i j hij hj
    rw [List.getD_eq_getElem?_getD, List.getD_eq_getElem?_getD, List.getElem?_eq_getElem hi, List.getElem?_eq_getElem hj] at this
    exact this
  · intro h
    refine met_no _ _ fun i j hij hj => ?_
    have hi : i < ns.length := by omega
    show ns.getD i 0 ≠ ns.getD j 0
    rw [List.getD_eq_getElem?_getD, List.getD_eq_getElem?_getD, List.getElem?_eq_getElem hi, List.getElem?_eq_getElem hj]
    exact List.pairwise_iff_getElem.mp h i j hi hj hij
theorem met_le (ns : List Int) : met ns ≤ ns.length := firstMet_length_le _ _
theorem ints_vals : ∀ {ns : List Int} {us : List Value}, Vals (ns.map V.int) us → IntsAre us ns
  | [], _, .nil => .nil
  | n :: ns, _, .cons r t => by
    obtain ⟨k, rfl⟩ := r
    exact .cons n k (ints_vals t)
section
variable {X : Cx}
def rSetI (K : PySem.W.Frag) : List V → Hp → VK → Prop := fun xs H Q => ∃ (a : Addr) (ns : List Int), xs = [.ref a] ∧ SqL K H a (ns.map V.int) ∧ ns.length ≤ 4000 ∧
  ∀ (p : Addr) (S : Int → Bool), H p = none → (∀ k, S k = decide (k ∈ ns)) → Q (.ref p) (upd H p (.set S (met ns)))
theorem cr_setI (hc : X.calm = true) : CallR X (.type "set") (rSetI X.K) := by
  intro pins s σ H xs us Q I r h
  obtain ⟨a, ns, rfl, hS, hl, q⟩ := h
  obtain ⟨u, rfl, rx⟩ := vals1 r
  cases (show u = Value.ref a from rx)
  obtain ⟨its, rv, pl, hz⟩ := I.list hS
  have hi : IntsAre its.toArray.toList ns := by
    rw [List.toList_toArray]
    exact ints_vals rv
  have hn : its.length = ns.length := by
    rw [← rv.length, List.length_map]
  have hsz : its.toArray.size = ns.length := by
    rw [List.size_toArray, hn]
  refine call_set_list (ns := ns) (I.ok.hd hc) pl.isList hi (by rw [hsz]; show ns.length + 1 < 4096; omega) fun h' tk hS' hk => ?_
  have hf : H s.heap.objs.size = none := I.hok.fresh (Nat.le_refl _)
  have kp : ∀ b o, s.heap.get? b = some o → h'.get? b = some o := fun b o e => hk b o (Heap.lt_size e) e
  rw [hsz] at hS'
  refine ⟨.ref s.heap.objs.size, _, I.laid (t' := tk) kp (Nat.le_refl _) (o := .set _ _) hS', rfl, q _ _ hf fun k => ?_⟩
  rw [firstMet_any]
  rw [Bool.eq_iff_iff, decide_eq_true_iff, List.any_eq_true]
  constructor
  · rintro ⟨y, hy, e⟩
    obtain ⟨i, hi', rfl⟩ := List.mem_map.mp hy
    have hlt := List.mem_range.mp hi'
    have ek := beq_iff_eq.mp e
    rw [← ek, List.getD_eq_getElem?_getD, List.getElem?_eq_getElem hlt]
    exact List.getElem_mem hlt
  · intro hm
    obtain ⟨i, hi', e⟩ := List.mem_iff_getElem.mp hm
    refine ⟨ns.getD i 0, List.mem_map.mpr ⟨i, List.mem_range.mpr hi', rfl⟩, beq_iff_eq.mpr ?_⟩
    rw [List.getD_eq_getElem?_getD, List.getElem?_eq_getElem hi']
    exact e
theorem call_lenSet : CallR X (.builtin "len") (fun xs H Q => ∃ (p : Addr) (S : Int → Bool) (n : Nat), xs = [.ref p] ∧ H p = some (.set S n) ∧ Q (.int (n : Nat)) H) := by
  intro pins s σ H xs us Q I r h
  obtain ⟨p, S, n, rfl, hp, q⟩ := h
  obtain ⟨u, rfl, rx⟩ := vals1 r
  cases (show u = Value.ref p from rx)
  obtain ⟨o, es, ep, t, e, ex, hd, _, _, hb, hf, hn⟩ := (show ObjOk X.prog X.w H s.heap p (.set S n) from I.hok p _ hp)
  have h63 : (es.size : Int) < 2 ^ 63 := by
    have : es.size < 4096 := hb
    have e63 : (2 : Int) ^ 63 = 9223372036854775808 := by decide
    rw [e63]
    omega
  refine call_len_set e ex hd hf h63 ?_
  rw [hn]
  exact ⟨.int (n : Nat), H, I.tok _, ⟨_, rfl⟩, q⟩
end

/-! ### the answers about lists of pages -/
def toI : V → Int
  | .int i => i
  | _ => 0
def nums (xs : List V) : List Int := xs.map toI
theorem nums_map (ns : List Int) : nums (ns.map V.int) = ns := by
  unfold nums
  rw [List.map_map]
  exact List.map_id' _
theorem nums_of : ∀ {xs : List V} {lo hi : Int}, xs.all (inRg lo hi) = true → (nums xs).map V.int = xs
  | [], _, _, _ => rfl
  | x :: xs, lo, hi, h => by
    rw [List.all_cons, Bool.and_eq_true] at h
    have ih := nums_of h.2
    cases x with
    | int i =>
      show V.int i :: (nums xs).map V.int = _
      rw [ih]
    | _ => exact absurd h.1 Bool.false_ne_true
def difB (m : Int) (xs : List V) : Bool := pgsB m xs && decide (nums xs).Nodup
def visB (xs : List V) : Bool := pgsB 40 xs && decide (xs.length ≤ 300)
theorem bl_int (a b : Nat) : decide (V.int (a : Int) = V.int (b : Int)) = decide (a = b) := by
  by_cases e : a = b
  · rw [decide_eq_true e, e]
    exact decide_eq_true rfl
  · rw [decide_eq_false e]
    exact decide_eq_false fun z => e (Int.ofNat.inj (V.int.inj z))

/-! ### a pool of three ints, from which is drawn -/
def Pl (H : Hp) (p : Addr) (n : Nat) : Prop := ∃ a b c : Int, H p = some (.lst [.int a, .int b, .int c]) ∧ 0 ≤ a ∧ 0 ≤ b ∧ b.natAbs < 2 ^ 160 ∧ 0 ≤ c ∧ c ≤ (n : Int)
theorem Pl.mono {H : Hp} {p : Addr} {n m : Nat} (h : Pl H p n) (l : n ≤ m) : Pl H p m := by
  obtain ⟨a, b, c, e, h1, h2, h3, h4, h5⟩ := h
  exact ⟨a, b, c, e, h1, h2, h3, h4, by omega⟩
theorem Pl.same {H H' : Hp} {p : Addr} {n : Nat} (h : Pl H p n) (s : Same H H') : Pl H' p n := by
  obtain ⟨a, b, c, e, h⟩ := h
  exact ⟨a, b, c, s _ _ e, h⟩
theorem Pl.at {H : Hp} {p : Addr} {n : Nat} (h : Pl H p n) : ∃ o, H p = some o := by
  obtain ⟨a, b, c, e, _⟩ := h
  exact ⟨_, e⟩
theorem e2_160 : (2 : Nat) ^ 160 = 1461501637330902918203684832716283019655932542976 := by decide +kernel
theorem e2_170 : (2 : Nat) ^ 170 = 1496577676626844588240573268701473812127674924007424 := by decide +kernel
theorem pw18 : (10 : Int) ^ (18 : Int).toNat = 1000000000000000000 := by decide +kernel
theorem pw30 : (10 : Int) ^ (30 : Int).toNat = 1000000000000000000000000000000 := by decide +kernel
theorem pw33 : (10 : Int) ^ (33 : Int).toNat = 1000000000000000000000000000000000 := by decide +kernel
theorem pw36 : (10 : Int) ^ (36 : Int).toNat = 1000000000000000000000000000000000000 := by decide +kernel
theorem pw39 : (10 : Int) ^ (39 : Int).toNat = 1000000000000000000000000000000000000000 := by decide +kernel
theorem pw38 : (10 : Int) ^ (38 : Int).toNat = 100000000000000000000000000000000000000 := by decide +kernel
theorem pw40 : (10 : Int) ^ (40 : Int).toNat = 10000000000000000000000000000000000000000 := by decide +kernel
theorem pw41 : (10 : Int) ^ (41 : Int).toNat = 100000000000000000000000000000000000000000 := by decide +kernel
theorem pow_ok (n : Int) (h : 0 ≤ n) (h2 : n ≤ 1000) : CPow 10 n := ⟨h, by omega, by decide⟩
theorem cube_of {i : Int} (h0 : 0 ≤ i) (h : i < 1496577676626844588240573268701473812127674924007424) : CPowG i 3 :=
  cube_ok (n := 170) (by rw [e2_170]; omega) (by decide)

/-! ### data: how deep, how long when shown -/
structure Sh (k n : Nat) (d : PyData) : Prop where
  showable : d.showable = true
  noDict : d.hasDict = false
  lay : d.canLay0 = true
  short : d.leavesShort 40 = true
  deep : d.depth ≤ k
  bulk : d.bulk ≤ n
theorem Sh.mono {k n k' n' : Nat} {d : PyData} (h : Sh k n d) (hk : k ≤ k') (hn : n ≤ n') : Sh k' n' d :=
  ⟨h.showable, h.noDict, h.lay, h.short, Nat.le_trans h.deep hk, Nat.le_trans h.bulk hn⟩
theorem Sh.fits {k n : Nat} {d : PyData} (h : Sh k n d) (hn : n ≤ 300000) : d.shown.length ≤ sizeLine := by
  have h1 := PyData.shown_le_bulk 40 (by decide) d h.short
  have h2 := h.bulk
  have e : sizeLine = 16777216 := by decide
  rw [e]
  omega
theorem Sh.shaped {k n : Nat} {d : PyData} (h : Sh k n d) (hk : k ≤ 64) : SeqAt.shaped d = true := by
  unfold SeqAt.shaped
  rw [h.lay, Bool.true_and]
  exact decide_eq_true (Nat.le_trans h.deep hk)
theorem sh_int {z : Int} (h : z.natAbs < 10 ^ 12) : Sh 0 0 (.int z) where
  showable := by
    show decide (z.natAbs.log2 < 1920) = true
    refine decide_eq_true ?_
    by_cases e : z.natAbs = 0
    · rw [e]
      decide
    · refine (Nat.log2_lt e).mpr (Nat.lt_of_lt_of_le h ?_)
      exact Nat.le_trans (show 10 ^ 12 ≤ 2 ^ 64 by decide) (Nat.pow_le_pow_right (by decide) (by decide))
  noDict := by simp only [PyData.hasDict]
  lay := by simp only [PyData.canLay0]
  short := by
    simp only [PyData.leavesShort]
    exact decide_eq_true (Nat.le_trans (PyData.shown_int_le h) (by decide))
  deep := by simp only [PyData.depth]; exact Nat.le_refl 0
  bulk := by simp only [PyData.bulk]; exact Nat.le_refl 0
theorem sh_all {k n : Nat} : ∀ {ds : List PyData}, (∀ d ∈ ds, Sh k n d) →
    PyData.showableAll ds = true ∧ PyData.hasDictAll ds = false ∧ PyData.canLayAll0 ds = true ∧ PyData.leavesShortAll 40 ds = true ∧ PyData.depthAll ds ≤ k ∧ PyData.bulkAll ds ≤ ds.length * (n + 1)
  | [], _ => by
    simp only [PyData.showableAll, PyData.hasDictAll, PyData.canLayAll0, PyData.leavesShortAll, PyData.depthAll, PyData.bulkAll]
    exact ⟨trivial, trivial, trivial, trivial, Nat.zero_le _, Nat.zero_le _⟩
  | d :: ds, h => by
    have hd := h d List.mem_cons_self
    obtain ⟨h1, h2, h3, h4, h5, h6⟩ := sh_all (ds := ds) fun x hx => h x (List.mem_cons_of_mem _ hx)
    simp only [PyData.showableAll, PyData.hasDictAll, PyData.canLayAll0, PyData.leavesShortAll, PyData.depthAll, PyData.bulkAll]
    rw [hd.showable, hd.noDict, hd.lay, hd.short, h1, h2, h3, h4]
    refine ⟨rfl, rfl, rfl, rfl, Nat.max_le.mpr ⟨hd.deep, h5⟩, ?_⟩
    have hb := hd.bulk
    rw [List.length_cons, Nat.add_mul, Nat.one_mul]
    omega
theorem sh_list {k n : Nat} {ds : List PyData} (h : ∀ d ∈ ds, Sh k n d) : Sh (k + 1) (ds.length * (n + 1)) (.list ds) := by
  obtain ⟨h1, h2, h3, h4, h5, h6⟩ := sh_all h
  exact ⟨by simp only [PyData.showable]; exact h1, by simp only [PyData.hasDict]; exact h2, by simp only [PyData.canLay0]; exact h3,
    by simp only [PyData.leavesShort]; exact h4, by simp only [PyData.depth]; omega, by simp only [PyData.bulk]; exact h6⟩
theorem sh_tuple {k n : Nat} {ds : List PyData} (h : ∀ d ∈ ds, Sh k n d) : Sh (k + 1) (ds.length * (n + 1)) (.tuple ds) := by
  obtain ⟨h1, h2, h3, h4, h5, h6⟩ := sh_all h
  exact ⟨by simp only [PyData.showable]; exact h1, by simp only [PyData.hasDict]; exact h2, by simp only [PyData.canLay0]; exact h3,
    by simp only [PyData.leavesShort]; exact h4, by simp only [PyData.depth]; omega, by simp only [PyData.bulk]; exact h6⟩
/-- a list of ints, as data -/
def nD (ns : List Int) : PyData := .list (ns.map .int)
theorem sh_nD {ns : List Int} (h : ∀ z ∈ ns, 0 ≤ z ∧ z ≤ 1000) : Sh 1 ns.length (nD ns) := by
  have h1 : Sh (0 + 1) ((ns.map PyData.int).length * (0 + 1)) (.list (ns.map .int)) := sh_list fun d hd => by
    obtain ⟨z, hz, rfl⟩ := List.mem_map.mp hd
    have := h z hz
    exact sh_int (by omega)
  rw [List.length_map] at h1
  exact h1.mono (Nat.le_refl _) (by omega)
theorem dpa_nums {K : PySem.W.Frag} {H : Hp} : ∀ ns : List Int, DpAll K H (ns.map V.int) (ns.map PyData.int)
  | [] => .nil
  | n :: ns => .cons (.int n) (dpa_nums ns)
theorem dp_nD {K : PySem.W.Frag} {H : Hp} {a : Addr} {ns : List Int} (h : SqL K H a (ns.map V.int)) : Dp K H (.ref a) (nD ns) := .lst h (dpa_nums ns)
theorem canLay_nums : ∀ ns : List Int, PyData.canLayAll0 (ns.map PyData.int) = true
  | [] => by simp only [List.map_nil, PyData.canLayAll0]
  | n :: ns => by
    simp only [List.map_cons, PyData.canLayAll0, PyData.canLay0, Bool.true_and]
    exact canLay_nums ns
theorem depth_nums : ∀ ns : List Int, PyData.depthAll (ns.map PyData.int) = 0
  | [] => by simp only [List.map_nil, PyData.depthAll]
  | n :: ns => by
    simp only [List.map_cons, PyData.depthAll, PyData.depth]
    rw [depth_nums ns]
    rfl
theorem nD_shaped (ns : List Int) : SeqAt.shaped (nD ns) = true := by
  have h1 : (nD ns).canLay0 = true := by
    unfold nD
    simp only [PyData.canLay0]
    exact canLay_nums ns
  have h2 : (nD ns).depth ≤ 64 := by
    unfold nD
    simp only [PyData.depth]
    rw [depth_nums]
    decide
  unfold SeqAt.shaped
  rw [h1, decide_eq_true h2]
  rfl
theorem eqv_nums : ∀ xs ys : List Int, PyData.eqvAll (xs.map .int) (ys.map .int) = decide (xs = ys)
  | [], [] => by simp only [List.map_nil, PyData.eqvAll]; rfl
  | [], y :: ys => by simp only [List.map_nil, List.map_cons, PyData.eqvAll]; rfl
  | x :: xs, [] => by simp only [List.map_nil, List.map_cons, PyData.eqvAll]; rfl
  | x :: xs, y :: ys => by
    simp only [List.map_cons, PyData.eqvAll, PyData.eqv]
    rw [eqv_nums xs ys]
    by_cases e : x = y
    · subst e
      by_cases f : xs = ys
      · subst f
        simp
      · simp [f]
    · simp [e]
theorem eqv_nD (xs ys : List Int) : PyData.eqv (nD xs) (nD ys) = decide (xs = ys) := by
  unfold nD
  simp only [PyData.eqv]
  exact eqv_nums xs ys
/-- an item at a drawn place -/
theorem at_ex {xs : List V} {r : Int} (h0 : 0 ≤ r) (h : r < (xs.length : Int)) : ∃ v, atI xs r = some v ∧ v ∈ xs := by
  obtain ⟨j, rfl⟩ := Int.eq_ofNat_of_zero_le h0
  have hj : j < xs.length := by omega
  exact ⟨xs[j], atI_nat (List.getElem?_eq_getElem hj), List.getElem_mem hj⟩
theorem at_back {ns : List Int} (h : ns ≠ []) : atI (ns.map V.int) (-1) = some (.int (ns.getLast h)) := by
  have e : ns.map V.int = ns.dropLast.map V.int ++ [.int (ns.getLast h)] := by
    rw [← List.map_singleton, ← List.map_append, List.dropLast_concat_getLast]
  rw [e]
  exact atI_last _ _

theorem u64_of {k : Nat} {A : Around} (hr : Room k A) : A.units + 64 < cLine := by
  have := hr.un
  omega
theorem But.new {p F : Addr} {H H' : Hp} {o : HO} (s : But p H H') (hF : H F = none) : But p H (L2.upd H' F o) := fun b x n e => by
  rw [upd_ne (ne_of_none e hF)]
  exact s b x n e

/-! ### the law's end, where its def may show data -/
section
variable {CX : CXT} {P : Program} {w : World} {K : PySem.W.Frag} {mg mb : PySem.Str → Option Value} {k : Nat}
theorem law_callG {fa a : Addr} {fd : FuncData} {x : PySem.Str} {sp : Sp} {s₁ : Shared} {vs : List Value} {ns : List Int}
    (KX : K.In s₁.heap) (hns : s₁.heap.Ns mainGlobals mg) (hb : s₁.heap.Ns builtinsNs mb)
    (hbb : ∀ y : PySem.Str, y ≠ "__name__" → mb y = bootBuiltins y) (hlim : s₁.heap.NoLimit) (hg : s₁.gens = #[])
    (ha : s₁.heap.get? a = some { cls := .type "list", data := .seq vs.toArray }) (hi : IntsAre vs ns) (hl : ns.length ≤ sizeLine)
    (hr : Room k callerA)
    (F : ∀ base : Heap, K.In base → base.Ns mainGlobals mg → FnG P w K mg base CX k fa fd [x] sp)
    (hbind : ∀ (s : Shared) (u : Value), BindsTo s fd ⟨[u], []⟩ [(x, u)])
    (hsp : ∀ H : Hp, SqL K H a (ns.map V.int) → (∀ b, H b ≠ none → b = a) → sp [.ref a] H (fun v _ => v = .bl true) fun _ _ _ => False)
    (hCX : ∀ H e s', CX [] H s₁ (fun _ _ _ => False) e s' → False) :
    codeAny (model P w) callerA (.call (.ref fa) ⟨[.ref a], []⟩)
      (fun r s' => r = .ok (.ret (.bool true)) ∧ OldK s₁.heap s'.heap ∧ s'.os = s₁.os ∧ AllBare s'.gens) s₁ := by
  have go : ∀ H : Hp, (∀ b, H b = none ∨ ∃ o xs, H b = some (.frz o (.lst xs))) → SqL K H a (ns.map V.int) → HOk P w H s₁.heap →
      (∀ b, H b ≠ none → b = a) → (H a ≠ none → K.lookup a = none) →
      codeAny (model P w) callerA (.call (.ref fa) ⟨[.ref a], []⟩)
        (fun r s' => r = .ok (.ret (.bool true)) ∧ OldK s₁.heap s'.heap ∧ s'.os = s₁.os ∧ AllBare s'.gens) s₁ := by
    intro H only hS hok one hK
    have lay : ∀ {b : Addr} {o : Obj}, s₁.heap.get? b = some o → H b = none → (hidT s₁.heap H).get? b = some o := fun e n => hidT_get e n
    have dict0 : ∀ {b : Addr} {o : Obj} {es : Array DictEntry} {ep : Nat}, s₁.heap.get? b = some o → o.data = .dict es ep → H b = none := by
      intro b o es ep e d
      cases q : H b with
      | none => rfl
      | some u =>
        have eb : b = a := one b (by rw [q]; exact fun z => nomatch z)
        subst eb
        rw [ha] at e
        cases e
        exact absurd (show Data.seq vs.toArray _ = Data.dict es ep from d) (fun z => nomatch z)
    have nsK : ∀ {b : Addr} {m : PySem.Str → Option Value}, s₁.heap.Ns b m → (hidT s₁.heap H).Ns b m := by
      rintro b m ⟨o, es, ep, e, d, r⟩
      exact ⟨o, es, ep, lay e (dict0 e d), d, r⟩
    have inK : K.In (hidT s₁.heap H) := by
      intro b o e
      refine lay (KX b o e) ?_
      cases q : H b with
      | none => rfl
      | some u =>
        have eb : b = a := one b (by rw [q]; exact fun z => nomatch z)
        subst eb
        rw [hK (by rw [q]; exact fun z => nomatch z)] at e
        cases e
    have lim2 : (hidT s₁.heap H).NoLimit := by
      obtain ⟨mc, h1, h2⟩ := hlim
      exact ⟨mc, nsK h1, h2⟩
    have nof : ∀ b ∈ frs ([] : List Env), H b = none := fun b hb => absurd (show b ∈ ([] : List Addr) from hb) (by simp)
    have e0 : Env0 P w K mg (hidT s₁.heap H) callerA [] s₁ H :=
      ⟨rfl, ⟨inK, nsK hns, ⟨mb, nsK hb, hbb⟩, lim2⟩, fun b o e => of_hidT e, Nat.le_of_eq (hidT_size _ _), trivial, nof, hok, .of_eq hg⟩
    refine codeAny_mono ((F _ inK (nsK hns)).run callerA rfl hr [] s₁ H ⟨[.ref a], []⟩ [.ref a] [.ref a] _ _ e0 (hbind s₁ (.ref a)) (.cons rfl .nil) (hsp H hS one)) fun r s' h => ?_
    match r, h with
    | .error e, h => exact (hCX H e s' h).elim
    | .ok .next, h => exact h.elim
    | .ok .brk, h => exact h.elim
    | .ok .cont, h => exact h.elim
    | .ok (.ret u), ⟨v, H', os, bare, un, hok', r', q⟩ =>
      cases (show v = V.bl true from q)
      cases (show u = Value.bool true from r')
      refine ⟨rfl, OldK.of_keep fun b o e => ?_, os, bare⟩
      rcases only b with q | ⟨ob, xs, q⟩
      · exact un.keep b o e q (fun z => absurd (show b ∈ ([] : List Addr) from z) (by simp)) (by simp)
      · have e1 := (hok b _ q).1
        have e2 := (hok' b _ (un.frzs b ob _ q)).1
        rw [e] at e1
        cases e1
        exact e2
  have rv := vals_ints hi
  cases hk : K.lookup a with
  | some o =>
    have e := KX a o hk
    rw [ha] at e
    cases e
    exact go (fun _ => none) (fun _ => .inl rfl) (.inr ⟨_, vs.toArray, _, hk, rfl, rfl, rfl, by rw [List.size_toArray, hi.length]; exact hl, by simpa using rv⟩)
      (fun b u z => nomatch (show (none : Option HO) = some u from z)) (fun b z => absurd rfl z) fun z => absurd rfl z
  | none =>
    refine go (fun b => if b = a then some (.frz { cls := .type "list", data := .seq vs.toArray } (.lst (ns.map V.int))) else none) (fun b => ?_) (.inl (.inr ⟨_, if_pos rfl⟩)) (fun b u z => ?_) (fun b z => ?_) fun _ => hk
    · by_cases hb : b = a
      · exact .inr ⟨_, _, if_pos hb⟩
      · exact .inl (if_neg hb)
    · by_cases hb : b = a
      · have z' := (if_pos hb).symm.trans z
        cases z'
        subst hb
        exact ⟨ha, by rw [List.length_map]; exact hl, vs, _, rv, ha⟩
      · exact nomatch (if_neg hb).symm.trans z
    · by_cases hb : b = a
      · exact hb
      · exact absurd (if_neg hb) z
end
theorem walk_ofG {l : PySem.W.OpenLaw} {n k : Nat} {q : Program} {loose : List PySem.Str} {XP : (PySem.Str → Option Value) → Heap → Prop}
    {YP : World → Heap → Prop} {d : DefRec} {K : Params → PySem.W.Frag} {sp : PySem.W.Frag → Sp} {x : PySem.Str}
    (hn : l.most = some n) (hn2 : n ≤ sizeLine) (hdf : d.params.defaults = []) (hr : Room k callerA)
    (hY : ∀ (w : World) (h : Heap), YP w h → (K w.params).In h)
    (F : ∀ (w : World) (mg : PySem.Str → Option Value) (fa : Addr) (h : Heap), (K w.params).In h → h.Ns mainGlobals mg → mg d.name = some (.ref fa) →
      ∃ fd : FuncData, (∀ (s : Shared) (u : Value), BindsTo s fd ⟨[u], []⟩ [(x, u)]) ∧
        ∀ base : Heap, (K w.params).In base → base.Ns mainGlobals mg → FnG l.prog w (K w.params) mg base CX0 k fa fd [x] (sp (K w.params)))
    (hsp : ∀ (K : PySem.W.Frag) (H : Hp) (a : Addr) (ns : List Int), ns.length ≤ n → SqL K H a (ns.map V.int) → (∀ b, H b ≠ none → b = a) →
      sp K [.ref a] H (fun v _ => v = .bl true) fun _ _ _ => False) :
    PySem.W.WalkO q loose XP YP l.row.toRowW d [] (fun f vs => PySem.call f vs) :=
  Att.attach_call hn hdf fun w s₀ s₁ mg mb fa o pm cd doc a vs ns G Y ho hd hcd hmg hobj hints hlen hg => by
    obtain ⟨fd, hb, hF⟩ := F w mg fa _ (hY w _ Y) G.T.g hmg
    exact law_callG (hY w _ Y) G.T.g G.T.b G.T.builtins G.T.nolimit hg hobj hints (Nat.le_trans hlen hn2) hr hF hb
      (fun H hS one => hsp _ H a ns hlen hS one) fun H e s' z => z.elim

/-! ### o[:] = another list -/
section
variable {prog : Program} {w : World} {A : Around} {E : Value → Shared → Prop} {s : Shared}
theorem bounds_all (n : Nat) : sliceBounds none none none n = ((0 : Int), (n : Int), 1) := by
  unfold sliceBounds
  simp only [Option.getD_none, show (1 : Int) > 0 by decide, if_true]
set_option maxHeartbeats 1000000 in
theorem setItem_all {l b sl : Addr} {items new : Array Value} {n n2 : Nat} {Q : Unit → Shared → Prop}
    (e : s.heap.get? l = some { cls := .type "list", data := .seq items n })
    (e2 : s.heap.get? b = some { cls := .type "list", data := .seq new n2 }) (hne : l ≠ b)
    (hs : s.heap.IsSliceOf sl .none .none .none) (hsz : items.size + new.size ≤ sizeLine)
    (h : Q () { s with heap := s.heap.update l (Obj.mapSeq fun xs => xs.extract 0 0 ++ new ++ xs.extract items.size xs.size) }) :
    wpAny (model prog w) A (setItem (.ref l) (.ref sl) (.ref b)) Q E s := by
  have hl := PySem.IsL.isList e; have hb := PySem.IsL.isList e2
  obtain ⟨os, hos, hcs, hds⟩ := id hs
  have hT : s.TypeIs (.ref sl) "slice" := ⟨os, hos, hcs⟩
  have hstep : ¬ ((rawPart none == rawInt 0) = true) := fun z => nomatch z
  have same : Builtin.List.listSameRef (.ref l) (.ref b) = false := beq_eq_false_iff_ne.mpr hne
  have mx : (max (0 : Int) (items.size : Int)).toNat = items.size := by omega
  have hz : ((fun xs : Array Value => xs.extract 0 0 ++ new ++ xs.extract items.size xs.size) items).size ≤ sizeLine + 1 := by
    simp only [Array.size_append, Array.size_extract]; omega
  unfold setItem; try with_reducible refine wpAny_holding ?_
  first | refine wpAny_bind (wpAny_pure ?_) | skip
  refine wpAny_bind (wpAny_sequenceKey hl.typeIs (by decide) (wpAny_bind (wpAny_callSpecial?_slot (name := Str.ofString "__setitem__") hl.typeIs slot_list_setitem (wpAny_call_entry slot_list_setitem hl.typeIs entry_list_setitem ?_ (args_list_setitem _ _ _)))))
  show wpAny _ _ (Builtin.List.listSubscript? (.ref sl) >>= _) _ _ s; refine wpAny_bind ?_
  unfold Builtin.List.listSubscript?; refine wpAny_bind (wpAny_specialOf hT slice_no_index ?_)
  simp only [Option.isNone_none, if_true]; refine wpAny_pure ?_
  show wpAny _ _ (typeOf (.ref sl) >>= _) _ _ s; refine wpAny_bind (wpAny_typeOf hT ?_)
  first | (rw [if_neg (by decide)]) | (refine PySem.W.KFB.if_not (by decide) ?_)
  rw [listSliceParts_eq]; refine wpAny_bind (wpAny_bind (wpAny_field hos hds (x := .none) rfl (wpAny_bind (wpAny_listPart .none ?_))))
  rw [if_neg hstep]; refine wpAny_bind (wpAny_field hos hds (x := Value.none) rfl (wpAny_bind (wpAny_listPart .none ?_)))
  refine wpAny_bind (wpAny_field hos hds (x := Value.none) rfl (wpAny_bind (wpAny_listPart .none (wpAny_pure ?_)))); skip
  first | (simp only [same, Bool.false_eq_true, if_false]) | (refine PySem.W.KFB.if_not same ?_) | (dsimp only; rw [if_neg (by rw [same]; exact fun z => nomatch z)])
  refine wpAny_bind (m := Builtin.List.listAllItems (.ref b) "must assign iterable to extended slice") ?_; unfold Builtin.List.listAllItems
  refine wpAny_bind (wpAny_typeOf hb.typeIs ?_); first | (refine PySem.W.KFB.if_so (by decide) ?_) | (rw [if_pos (by decide)]) | (simp only [beq_self_eq_true, Bool.true_or, if_true])
  unfold Builtin.List.listItems; refine wpAny_bind (wpAny_seqItems e2 rfl (wpAny_pure (wpAny_bind (wpAny_bind (wpAny_seqItems e rfl (wpAny_pure ?_))))))
  refine wpAny_bind (wpAny_of_eq ((sliceIndices_raw none none none items.size (by simp)).trans (congrArg (pure : Int × Int × Int → Sem (Int × Int × Int)) (bounds_all _))) ?_)
  show wpAny _ _ (if ((1 : Int) == 1) = true then _ else _) _ _ s; rw [if_pos (by decide)]; refine wpAny_bind (wpAny_rule ?_)
  first | (simp only [notLongL hsz, Bool.false_eq_true, if_false]) | (refine PySem.W.KFB.if_not (notLongL hsz) ?_)
  first | (refine wpAny_bind (wpAny_pure ?_)) | (skip)
  show wpAny _ _ (updateSeq l (fun xs => xs.extract 0 (0 : Int).toNat ++ new ++ xs.extract (max (0 : Int) (items.size : Int)).toNat xs.size) >>= _) _ _ s
  rw [mx, show (0 : Int).toNat = 0 from rfl]; refine wpAny_bind (wpAny_updateSeq (hz := Nat.le_trans (Nat.le_add_right _ _) hsz) (_hz' := hz) e rfl (wpAny_bind (wpAny_letGo ?_)))
  first | (exact wpAny_bind (wpAny_pure (wpAny_pure ⟨.none, rfl, wpAny_pure h⟩))) | (exact wpAny_pure ⟨.none, rfl, wpAny_pure h⟩)
end
section
variable {X : Cx} {o : Expr} {to : TE} {p2 pos : Pos}
/-- o[:] = v, another list -/
def gAll (to : TE) : TG := fun v σ H Q => to σ H fun x H1 => ∃ (l b : Addr) (xs ys : List V), x = .ref l ∧ v = .ref b ∧ l ≠ b ∧ H1 l = some (.lst xs) ∧ H1 b = some (.lst ys) ∧
  xs.length + ys.length ≤ sizeLine ∧ Q σ (upd H1 l (.lst ys))
theorem pg_all (ho : PE X o to)
    (ha : ∀ v, assign (.Subscript o (.Slice none none none p2) pos) X.env v = (do
      let ov ← holding [v] (eval o X.env)
      let iv ← holding [v, ov] (eval (.Slice none none none p2) X.env)
      standAt pos
      holding [v, ov, iv] (setItem ov iv v)
      release [iv, v, ov] []) := by intro _; rfl) : PG X (.Subscript o (.Slice none none none p2) pos) (gAll to) := by
  refine ⟨fun pins s σ H v u Q I r h => ?_⟩
  rw [ha]
  refine wpAny_bind (wpAny_holding (thn (ho.run pins s σ H _ I h) fun ov s1 ⟨x, H1, I1, r1, l, b, xs, ys, ex, ev, hne, hl, hb, hz, q⟩ => ?_))
  subst ex; subst ev
  cases (show ov = Value.ref l from r1)
  cases (show u = Value.ref b from r)
  refine wpAny_bind (wpAny_holding (wpAny_Slice ?_))
  rw [evalPart_none]
  refine wpAny_pure (wpAny_pure (wpAny_pure ?_))
  have I2 : Inv X pins σ H1 { s1 with heap := s1.heap.push { cls := .type "slice", data := .fields #[.none, .none, .none] } } :=
    I1.kept (t' := s1.toks) fun c ob e => Heap.get?_push_of_some _ e
  refine wpAny_bind (wpAny_standAt (wpAny_bind (wpAny_holding ?_)))
  obtain ⟨z, its, n, rv, hl', e⟩ := I2.lstM hl
  obtain ⟨z2, its2, n2, rv2, hl2', e2⟩ := I2.lstM hb
  refine setItem_all e e2 hne (Heap.IsSliceOf.new ..) (by rw [List.size_toArray, List.size_toArray]; omega) ?_
  have I3 := I2.lset (its' := its2) (f := fun xs => xs.extract 0 0 ++ its2.toArray ++ xs.extract its.toArray.size xs.size) (t' := s1.toks) hl e
    (by show its.toArray.extract 0 0 ++ its2.toArray ++ its.toArray.extract its.toArray.size its.toArray.size = its2.toArray; simp) rv2 (by omega)
  exact wpAny_release ⟨σ, _, I3, q⟩
end

/-! ### what a visit does -/
def vis (t : List Int) (p : Int) : List Int := if p ∈ t then t.take (t.idxOf p + 1) else t ++ [p]
def play (t l : List Int) : List Int := l.foldl vis t
theorem play_nil (t : List Int) : play t [] = t := rfl
theorem play_snoc (t l : List Int) (p : Int) : play t (l ++ [p]) = vis (play t l) p := by
  unfold play
  rw [List.foldl_append]
  rfl
theorem play_step (t l : List Int) {i : Nat} {p : Int} (h : l[i]? = some p) : play t (l.take (i + 1)) = vis (play t (l.take i)) p := by
  rw [List.take_add_one, h]
  exact play_snoc _ _ _
theorem vis_len (t : List Int) (p : Int) : (vis t p).length ≤ t.length + 1 := by
  unfold vis
  split
  · rw [List.length_take]
    omega
  · rw [List.length_append]
    exact Nat.le_refl _
theorem play_len : ∀ (l t : List Int), (play t l).length ≤ t.length + l.length
  | [], t => Nat.le_refl _
  | p :: l, t => by
    have h1 := play_len l (vis t p)
    have h2 := vis_len t p
    show (play (vis t p) l).length ≤ _
    rw [List.length_cons]
    omega
theorem vis_mem {t : List Int} {p z : Int} (h : z ∈ vis t p) : z ∈ t ∨ z = p := by
  unfold vis at h
  split at h
  · exact .inl (List.mem_of_mem_take h)
  · rcases List.mem_append.mp h with h | h
    · exact .inl h
    · exact .inr (List.mem_singleton.mp h)
theorem play_mem : ∀ {l t : List Int} {z : Int}, z ∈ play t l → z ∈ t ∨ z ∈ l
  | [], _, _, h => .inl h
  | p :: l, t, z, h => by
    rcases play_mem (l := l) (t := vis t p) h with h | h
    · rcases vis_mem h with h | h
      · exact .inl h
      · exact .inr (h ▸ List.mem_cons_self)
    · exact .inr (List.mem_cons_of_mem _ h)
theorem inV_nums (p : Int) : ∀ t : List Int, inV (.int p) (t.map V.int) = decide (p ∈ t)
  | [] => by
    show false = decide (p ∈ ([] : List Int))
    exact (decide_eq_false (fun z => nomatch z)).symm
  | x :: t => by
    show ((x == p) || inV (.int p) (t.map V.int)) = decide (p ∈ x :: t)
    rw [inV_nums p t]
    by_cases e : x = p
    · subst e
      rw [beq_self_eq_true, Bool.true_or]
      exact (decide_eq_true List.mem_cons_self).symm
    · rw [beq_eq_false_iff_ne.mpr e, Bool.false_or]
      refine decide_eq_decide.mpr ⟨fun h => List.mem_cons_of_mem _ h, fun h => ?_⟩
      rcases List.mem_cons.mp h with h | h
      · exact absurd h.symm e
      · exact h
theorem flat_nums : ∀ t : List Int, (t.map V.int).all flatV = true
  | [] => rfl
  | x :: t => by
    rw [List.map_cons, List.all_cons, flat_nums t]
    rfl
theorem idx_nums : ∀ {t : List Int} {p : Int}, p ∈ t → (t.map V.int)[t.idxOf p]? = some (.int p) ∧ t.idxOf p < t.length ∧
    ∀ (m : Nat) (z : V), m < t.idxOf p → (t.map V.int)[m]? = some z → eqV z (.int p) = false
  | [], _, h => nomatch h
  | x :: t, p, h => by
    by_cases e : x = p
    · subst e
      rw [List.idxOf_cons_self]
      exact ⟨rfl, Nat.succ_pos _, fun m z hm => absurd hm (Nat.not_lt_zero m)⟩
    · have h' : p ∈ t := by
        rcases List.mem_cons.mp h with h | h
        · exact absurd h.symm e
        · exact h
      obtain ⟨i1, i2, i3⟩ := idx_nums h'
      have ei : (x :: t).idxOf p = t.idxOf p + 1 := by
        rw [List.idxOf_cons, beq_eq_false_iff_ne.mpr e]
        rfl
      rw [ei]
      refine ⟨i1, Nat.succ_lt_succ i2, fun m z hm hz => ?_⟩
      cases m with
      | zero =>
        cases (Option.some.inj hz)
        exact beq_eq_false_iff_ne.mpr e
      | succ m => exact i3 m z (Nat.lt_of_succ_lt_succ hm) hz
theorem cut_to (xs : List V) (k : Nat) : cutV xs none (some (k : Int)) = xs.take k := by
  unfold cutV
  rw [HT.sIx_none, HT.sIx_nat, List.drop_zero, Nat.sub_zero]
  by_cases h : k ≤ xs.length
  · rw [Nat.min_eq_left h]
  · rw [Nat.min_eq_right (by omega), List.take_of_length_le (Nat.le_refl _), List.take_of_length_le (by omega)]
theorem cut_from (xs : List V) (k : Nat) : cutV xs (some (k : Int)) none = xs.drop k := by
  unfold cutV
  rw [HT.sIx_none, HT.sIx_nat]
  by_cases h : k ≤ xs.length
  · rw [Nat.min_eq_left h, List.take_of_length_le (by rw [List.length_drop]; exact Nat.le_refl _)]
  · rw [Nat.min_eq_right (by omega), List.drop_of_length_le (Nat.le_refl _), List.drop_of_length_le (by omega), List.take_nil]
/-- pages -/
def Pgs (l : List Int) : Prop := ∀ z ∈ l, 0 ≤ z ∧ z ≤ 39
theorem pgs_ok {l : List Int} (h : Pgs l) : pgsB 40 (l.map V.int) = true := by
  refine List.all_eq_true.mpr fun x hx => ?_
  obtain ⟨z, hz, rfl⟩ := List.mem_map.mp hx
  have := h z hz
  show (decide (0 ≤ z) && decide (z ≤ 40 - 1)) = true
  rw [decide_eq_true this.1, decide_eq_true (by omega : z ≤ 40 - 1)]
  rfl
theorem okv_nums {H : Hp} {a : Addr} {l : List Int} (e : H a = some (.lst (l.map V.int))) (hl : l.length ≤ 4000) : OkV H (.ref a) := by
  refine ⟨.inl ⟨_, e⟩, fun b xs eb eo => ?_⟩
  cases eb
  rw [e] at eo
  cases eo
  refine ⟨by rw [List.length_map]; exact hl, fun y hy => ?_⟩
  obtain ⟨z, _, rfl⟩ := List.mem_map.mp hy
  exact trivial
theorem vis_ok {H : Hp} {a : Addr} {l : List Int} (e : H a = some (.lst (l.map V.int))) (hl : l.length ≤ 300) (h : Pgs l) : itemsB visB H (.ref a) = true := by
  rw [itemsB_lst e]
  unfold visB
  rw [pgs_ok h, List.length_map]
  exact decide_eq_true hl
theorem trl_ok {H : Hp} {a : Addr} {l : List Int} (e : H a = some (.lst (l.map V.int))) (hn : l.Nodup) (h : Pgs l) : itemsB (difB 40) H (.ref a) = true := by
  rw [itemsB_lst e]
  unfold difB
  rw [pgs_ok h, nums_map]
  exact decide_eq_true hn
/-- the trails after each of the visits -/
def scan (t l : List Int) : List (List Int) := (List.range l.length).map fun i => play t (l.take (i + 1))

theorem FunD_ok0 {P : Program} {w : World} {K : PySem.W.Frag} {mg : PySem.Str → Option Value} {base : Heap} {x qual : PySem.Str} {params : Arguments} {body : List Stmt}
    {scope : Scope} {dvs : List V} {kws : List (PySem.Str × V)} {f : Addr} {fd : FuncData} {N ps : List PySem.Str} {k : Nat} {sp : Sp}
    (F : FunD K x qual params body scope dvs kws f fd) (S : FnScope N ps scope) (len : ∀ vs H Q E, sp vs H Q E → vs.length = ps.length)
    (hb : ∀ (cdv : Value) (A : Around) (outer : List Env) (s : Shared) (H : Hp) (vs : List V) (Q : VK) (E : XK),
      Room k (A.deeper (envOfC qual scope s.heap.objs.size f cdv)) → sp vs H Q E →
      ∃ t, PSs (cxOf CX0 P w K mg base N qual scope f cdv A outer s H E).nox body t ∧ t { nx := fun _ H' => Q .non H', rt := Q } (start N vs) H) :
    FnOk P w K mg base CX0 (k + 1) f fd ps sp :=
  F.ok S len fun cdv A outer s H vs Q E hr hsp => by
    obtain ⟨t, h, q⟩ := hb cdv A outer s H vs Q E hr hsp
    exact ⟨t, h.nox, q⟩

/-! ### lists of lists of ints -/
def Rows (H : Hp) : List Addr → List (List Int) → Prop := Paired fun a t => H a = some (.lst (t.map V.int))
theorem Rows.kept {H H' : Hp} : ∀ {as : List Addr} {ts : List (List Int)}, Rows H as ts → (∀ a ∈ as, H' a = H a) → Rows H' as ts
  | _, _, .nil, _ => .nil
  | _, _, .cons h r, k => .cons ((k _ List.mem_cons_self).trans h) (Rows.kept r fun a ha => k a (List.mem_cons_of_mem _ ha))
theorem Rows.same {H H' : Hp} (s : Same H H') : ∀ {as : List Addr} {ts : List (List Int)}, Rows H as ts → Rows H' as ts
  | _, _, .nil => .nil
  | _, _, .cons h r => .cons (s _ _ h) (Rows.same s r)
theorem Rows.snoc {H : Hp} {a : Addr} {t : List Int} (h : H a = some (.lst (t.map V.int))) : ∀ {as : List Addr} {ts : List (List Int)}, Rows H as ts → Rows H (as ++ [a]) (ts ++ [t])
  | _, _, .nil => .cons h .nil
  | _, _, .cons h' r => .cons h' (Rows.snoc h r)
theorem Rows.at {H : Hp} : ∀ {as : List Addr} {ts : List (List Int)} {i : Nat} {a : Addr}, Rows H as ts → as[i]? = some a → ∃ t, ts[i]? = some t ∧ H a = some (.lst (t.map V.int))
  | _, _, 0, _, .cons h _, e => by
    cases (Option.some.inj e)
    exact ⟨_, rfl, h⟩
  | _, _, i + 1, _, .cons _ r, e => Rows.at (i := i) r e
theorem Rows.mem {H : Hp} : ∀ {as : List Addr} {ts : List (List Int)} {a : Addr}, Rows H as ts → a ∈ as → ∃ t ∈ ts, H a = some (.lst (t.map V.int))
  | _, _, _, .nil, h => nomatch h
  | _, _, _, .cons h r, m => by
    rcases List.mem_cons.mp m with rfl | m
    · exact ⟨_, List.mem_cons_self, h⟩
    · obtain ⟨t, ht, e⟩ := Rows.mem r m
      exact ⟨t, List.mem_cons_of_mem _ ht, e⟩
theorem Rows.length {H : Hp} {as : List Addr} {ts : List (List Int)} (r : Rows H as ts) : as.length = ts.length := Paired.length r
def nnD (ts : List (List Int)) : PyData := .list (ts.map nD)
theorem dpa_rows {K : PySem.W.Frag} {H : Hp} : ∀ {as : List Addr} {ts : List (List Int)}, Rows H as ts → DpAll K H (as.map V.ref) (ts.map nD)
  | _, _, .nil => .nil
  | _, _, .cons h r => .cons (dp_nD (.inl (.inl h))) (dpa_rows r)
theorem dp_nnD {K : PySem.W.Frag} {H : Hp} {a : Addr} {as : List Addr} {ts : List (List Int)} (h : H a = some (.lst (as.map V.ref))) (r : Rows H as ts) : Dp K H (.ref a) (nnD ts) := .lst (.inl (.inl h)) (dpa_rows r)
theorem sh_nnD {ts : List (List Int)} {m : Nat} (h : ∀ t ∈ ts, t.length ≤ m ∧ ∀ z ∈ t, 0 ≤ z ∧ z ≤ 1000) : Sh 2 (ts.length * (m + 1)) (nnD ts) := by
  have h1 : Sh (1 + 1) ((ts.map nD).length * (m + 1)) (.list (ts.map nD)) := sh_list fun d hd => by
    obtain ⟨t, ht, rfl⟩ := List.mem_map.mp hd
    have := h t ht
    exact (sh_nD this.2).mono (Nat.le_refl _) this.1
  rw [List.length_map] at h1
  exact h1
theorem play_nodup_step {t : List Int} {p : Int} (h : t.Nodup) : (vis t p).Nodup := by
  unfold vis
  split
  · exact h.sublist (List.take_sublist _ _)
  · rename_i hp
    rw [List.nodup_append]
    refine ⟨h, by simp, fun a ha b hb e => ?_⟩
    rw [List.mem_singleton.mp hb] at e
    exact hp (e ▸ ha)
theorem play_nodup : ∀ (l : List Int) {t : List Int}, t.Nodup → (play t l).Nodup
  | [], _, h => h
  | p :: l, _, h => play_nodup l (play_nodup_step h)

/-! ### the same rules where the written part is named (in a comprehension's block) -/
section
variable {X : Cx} {K : PySem.W.Frag}
theorem ix_listK (hK : X.K = K) : IxR X (rIxL K) := hK ▸ ix_list
theorem ix_tupK (hK : X.K = K) : IxR X (rIxT K) := hK ▸ ix_tup
theorem sl_listK (hK : X.K = K) : SlR X (rSlL K) := hK ▸ sl_list
theorem op_inK (hK : X.K = K) : OpR X (compareOp .In) (rIn K false) := hK ▸ op_in_seq
theorem op_notInK (hK : X.K = K) : OpR X (compareOp .NotIn) (rIn K true) := hK ▸ op_notIn_seq
def rLenK (K : PySem.W.Frag) : List V → Hp → VK → Prop := fun xs H Q => ∃ p ys, xs = [.ref p] ∧ (SqL K H p ys ∨ SqT K H p ys) ∧ Q (.int ys.length) H
theorem call_lenK (hK : X.K = K) : CallR X (.builtin "len") (rLenK K) := hK ▸ call_len_seq
theorem call_isiK' (hK : X.K = K) : CallR X (.builtin "isinstance") (rIsi K) := hK ▸ call_isi
theorem mt_indexK (hK : X.K = K) : MtR X "list.index" (rIndex K) := hK ▸ mt_index
variable {o e : Expr} {es : List Expr} {to : TE} {t : TA} {name : PySem.Str} {apos cpos : Pos} {T id : String} {r : V → List V → Hp → VK → Prop}
theorem pe_bmK (hK : X.K = K) (pa : PlainAttrs T) (slot : Slot T name id) (hty : typeOf (.builtin id) = pure (.type "method_descriptor")) (hm : MtR X id r)
    (ho : PE X o to) (ha : PA X (e :: es) t) (hbase : attributeBase o name X.env (eval o X.env) = eval o X.env := by rfl)
    (hfew : ((backTo cpos (starEach (e :: es) X.env)).all (fun x => !x.1) && (backToKw cpos (keywordEach [] X.env)).all (fun x => x.1.isSome)
      && decide ((e :: es).length + ([] : List Keyword).length + (if ([] : List Keyword).isEmpty then 0 else 1) < 30)) = true := by rfl)
    (hline : (apos.endLine == cpos.line) = true := by rfl) (hs : starEach (e :: es) X.env = (false, eval e X.env) :: starEach es X.env := by rfl)
    (hplain : (backTo cpos (starEach es X.env)).any (·.1) = false := by rfl) :
    PE X (.Call (.Attribute o name apos) (e :: es) [] cpos) (tBM K T r to t) := by
  subst hK
  exact pe_bm pa slot hty hm ho ha hbase hfew hline hs hplain
end

theorem mapI_erase : ∀ (l : List Int) (j : Nat), (l.map V.int).eraseIdx j = (l.eraseIdx j).map V.int
  | [], _ => rfl
  | _ :: _, 0 => rfl
  | x :: l, j + 1 => by
    show V.int x :: (l.map V.int).eraseIdx j = V.int x :: (l.eraseIdx j).map V.int
    rw [mapI_erase l j]
theorem seq_nat {k n : Nat} (h : k < n) : seqIndex? (k : Int) n = some k := by
  unfold seqIndex?
  simp
  omega

theorem perm_erase {α : Type} : ∀ {l : List α} {k : Nat} (h : k < l.length), (l[k] :: l.eraseIdx k).Perm l
  | [], _, h => absurd h (Nat.not_lt_zero _)
  | _ :: _, 0, _ => .refl _
  | x :: l, k + 1, h => by
    have hk : k < l.length := Nat.lt_of_succ_lt_succ h
    have ih := perm_erase (l := l) hk
    show (l[k] :: x :: l.eraseIdx k).Perm (x :: l)
    exact (List.Perm.swap _ _ _).trans (ih.cons x)

theorem scan_last (t : List Int) : ∀ l : List Int, (t :: scan t l).getLast (List.cons_ne_nil _ _) = play t l := by
  intro l
  by_cases e : l = []
  · subst e
    rfl
  · have h0 : 0 < l.length := List.length_pos_iff.mpr e
    have h1 : scan t l ≠ [] := by
      unfold scan
      intro z
      have := congrArg List.length z
      rw [List.length_map, List.length_range] at this
      exact e (List.length_eq_zero_iff.mp this)
    rw [List.getLast_cons h1, List.getLast_eq_getElem]
    have hl : (scan t l).length = l.length := by
      unfold scan
      rw [List.length_map, List.length_range]
    have e2 : (scan t l)[(scan t l).length - 1]'(by omega) = play t (l.take (l.length - 1 + 1)) := by
      unfold scan
      rw [List.getElem_map, List.getElem_range, List.length_map, List.length_range]
    rw [e2, show l.length - 1 + 1 = l.length by omega, List.take_length]
theorem Rows.last {H : Hp} : ∀ {as : List Addr} {ts : List (List Int)} (h : Rows H as ts) (ne : ts ≠ []), ∃ x, atI (as.map V.ref) (-1) = some (.ref x) ∧ H x = some (.lst ((ts.getLast ne).map V.int)) := by
  intro as ts h ne
  have hl := h.length
  have ha : as ≠ [] := fun z => by
    subst z
    exact ne (List.length_eq_zero_iff.mp hl.symm)
  have e : as.map V.ref = as.dropLast.map V.ref ++ [.ref (as.getLast ha)] := by
    rw [← List.map_singleton, ← List.map_append, List.dropLast_concat_getLast]
  refine ⟨as.getLast ha, by rw [e]; exact atI_last _ _, ?_⟩
  have pos : 0 < as.length := List.length_pos_iff.mpr ha
  have g : as[as.length - 1]? = some (as.getLast ha) := by
    rw [List.getLast_eq_getElem, List.getElem?_eq_getElem]
  obtain ⟨t, ht, eo⟩ := h.at g
  have et : t = ts.getLast ne := by
    rw [List.getLast_eq_getElem]
    rw [hl, List.getElem?_eq_getElem (by omega)] at ht
    exact (Option.some.inj ht).symm
  rw [← et]
  exact eo
theorem scan_len (t l : List Int) : (scan t l).length = l.length := by
  unfold scan
  rw [List.length_map, List.length_range]

theorem pgs0 : Pgs [] := fun _ h => nomatch h
/-- the script, beside a pool -/
def Apart (K : PySem.W.Frag) (a p : Addr) (xs : List V) : Prop := a ≠ p ∨ ∀ H' : Hp, SqL K H' a xs
theorem But.seq2 {K : PySem.W.Frag} {p a : Addr} {H H' : Hp} {xs : List V} (s : But p H H') (n : Apart K a p xs) (h : SqL K H a xs) : SqL K H' a xs := by
  rcases n with n | n
  · exact s.seq n h
  · exact n H'
theorem apart_of {K : PySem.W.Frag} {a p : Addr} {H : Hp} {xs : List V} (h : SqL K H a xs) (hp : H p = none) : Apart K a p xs := by
  rcases h with h | h
  · left
    intro e
    subst e
    rcases h with h | ⟨o, h⟩ <;> (rw [hp] at h; cases h)
  · exact .inr fun H' => .inr h
theorem take_filter {α : Type} (f : α → Bool) {l : List α} {i : Nat} {x : α} (h : l[i]? = some x) :
    (l.take (i + 1)).filter f = (l.take i).filter f ++ (if f x = true then [x] else []) := by
  rw [List.take_add_one, h, List.filter_append]
  congr 1
  show List.filter f [x] = _
  rw [List.filter_cons]
  rfl
theorem at_nums {ns : List Int} {i : Nat} {x : V} (h : (ns.map V.int)[i]? = some x) : ∃ z, ns[i]? = some z ∧ x = .int z := by
  rw [List.getElem?_map] at h
  cases e : ns[i]? with
  | none => rw [e] at h; cases h
  | some z => rw [e] at h; cases h; exact ⟨z, rfl, rfl⟩

/-! ### repr of a value that may be, or hold, an empty dict -/
section
variable {prog : Program} {w : World} {A : Around} {E : Value → Shared → Prop} {s : Shared} {h₀ : Heap}
def ItemOk (h₀ : Heap) (k : Nat) (u : Value) (d : PyData) : Prop := ∃ as, Reads h₀ u d as ∧ d.showable = true ∧ (d.hasDict = true → sysModules ∉ as) ∧ d.shown.length ≤ sizeLine ∧ d.depth ≤ k
theorem items_K {k : Nat} : ∀ {us : List Value} {ds : List PyData}, Paired (ItemOk h₀ k) us ds →
    ∃ bs, ReadAtMost h₀ k bs ∧ ReprAllK prog w bs h₀ k us (PyData.shownAll ds)
  | _, _, .nil => ⟨[], (fun _ z => nomatch z), by simp only [PyData.shownAll]; exact ReprAllK.nil⟩
  | _, _, .cons h r => by
    obtain ⟨as, r1, h1, h2, h3, h4⟩ := h
    obtain ⟨b1, m1, k1⟩ := ReprK.of_reads (prog := prog) (w := w) r1 h1 h2 h3
    obtain ⟨b2, m2, k2⟩ := items_K r
    refine ⟨b1 ++ b2, (m1.mono h4).append m2, ?_⟩
    have c1 := ReprAllK.more_le (as' := b1 ++ b2) (d' := k) (fun b hb => List.mem_append_left _ hb) h4 (ReprAllK.cons k1 ReprAllK.nil)
    have c2 := k2.more_le (as' := b1 ++ b2) (d' := k) (fun b hb => List.mem_append_right _ hb) (Nat.le_refl k)
    simp only [PyData.shownAll]
    cases c1 with
    | cons a1 _ => exact ReprAllK.cons a1 c2
theorem reads_of_items {k : Nat} : ∀ {us : List Value} {ds : List PyData}, Paired (ItemOk h₀ k) us ds → ∃ as, ReadsAll h₀ us ds as
  | _, _, .nil => ⟨_, .nil⟩
  | _, _, .cons h r => by
    obtain ⟨as, r1, _⟩ := h
    obtain ⟨bs, r2⟩ := reads_of_items r
    exact ⟨_, .cons r1 r2⟩
theorem shownAll_len : ∀ ds : List PyData, (PyData.shownAll ds).length = ds.length
  | [] => by simp only [PyData.shownAll, List.length_nil]
  | d :: ds => by
    simp only [PyData.shownAll, List.length_cons]
    rw [shownAll_len ds]
theorem depth_items {k : Nat} : ∀ {us : List Value} {ds : List PyData}, Paired (ItemOk h₀ k) us ds → PyData.depthAll ds ≤ k
  | _, _, .nil => by simp only [PyData.depthAll]; exact Nat.zero_le _
  | _, _, .cons h r => by
    obtain ⟨as, _, _, _, _, h4⟩ := h
    simp only [PyData.depthAll]
    exact Nat.max_le.mpr ⟨h4, depth_items r⟩
theorem repr_mixed {a : Addr} {us : List Value} {n k : Nat} {ds : List PyData} {Q : Value → Shared → Prop}
    (e : s.heap.get? a = some { cls := .type "list", data := .seq us.toArray n }) (hp : Paired (ItemOk s.heap k) us ds)
    (hG : A.guards = some []) (hu : A.units + (k + 3) < cLine) (hk : PyData.depthAll ds = k)
    (hsz : (PyData.list ds).shown.length ≤ sizeLine)
    (hQ : ∀ h' u tk, (∀ b o, s.heap.get? b = some o → h'.get? b = some o) → Q (.str (PyData.list ds).shown u) { s with heap := h', toks := tk }) :
    wpAny (model prog w) A (call (.builtin "repr") [.ref a]) Q E s := by
  refine call_repr_slot (by omega) ⟨_, e, rfl⟩ F.slot_list_repr.toG ?_
  have sh : (PyData.list ds).shown = listText (PyData.shownAll ds) := by simp only [PyData.shown]
  rw [sh] at hsz hQ
  cases us with
  | nil =>
    cases hp
    exact call_list_repr_empty ⟨_, e, rfl⟩ e rfl ⟨_, _, rfl, hQ s.heap _ _ fun _ _ z => z⟩
  | cons u us =>
    obtain ⟨bs, m, K⟩ := items_K (prog := prog) (w := w) hp
    obtain ⟨as, R⟩ := reads_of_items hp
    have r : Reads s.heap (.ref a) (.list ds) (a :: as) := Reads.list e rfl rfl (by simpa using R)
    have na : a ∉ bs := not_mem_of_deeper (n := k) r (by simp only [PyData.depth]; omega) m
    refine call_list_reprK e rfl rfl na (by simpa using K.length_eq) (fun i y z => K.item i y (by simpa using z)) hG (fun b _ => Clear.nil b) (show A.units + 1 + (k + 1) < cLine by omega) (fun _ _ z => z) (fun h' u' tk hkp => ⟨_, _, rfl, hQ h' u' tk hkp⟩) hsz
end
/-- an item: data without a dict, or an empty dict -/
def D0 (K : PySem.W.Frag) (H : Hp) (x : V) (d : PyData) : Prop := (Dp K H x d ∧ Sh 10 500 d) ∨ ∃ a, x = .ref a ∧ H a = some (.dK []) ∧ d = .dict []
/-- what repr shows -/
def Shw (K : PySem.W.Frag) (H : Hp) (x : V) (t : PySem.Str) : Prop :=
  (∃ d, Dp K H x d ∧ Sh 20 300000 d ∧ t = d.shown) ∨ (∃ a, x = .ref a ∧ H a = some (.dK []) ∧ t = (PyData.dict []).shown) ∨
    ∃ a xs ds, x = .ref a ∧ H a = some (.lst xs) ∧ Paired (D0 K H) xs ds ∧ xs.length ≤ 700 ∧ t = (PyData.list ds).shown
mutual
theorem dp_same {K : PySem.W.Frag} {H H' : Hp} (s : Same H H') : ∀ {v : V} {d : PyData}, Dp K H v d → Dp K H' v d
  | _, _, .non => .non
  | _, _, .bl b => .bl b
  | _, _, .int i => .int i
  | _, _, .str x => .str x
  | _, _, .lst h r => .lst (s.seq h) (dpa_same s r)
  | _, _, .tup h r => .tup (by
      rcases h with (h | ⟨o, h⟩) | h
      · exact .inl (.inl (s _ _ h))
      · exact .inl (.inr ⟨o, s _ _ h⟩)
      · exact .inr h) (dpa_same s r)
theorem dpa_same {K : PySem.W.Frag} {H H' : Hp} (s : Same H H') : ∀ {vs : List V} {ds : List PyData}, DpAll K H vs ds → DpAll K H' vs ds
  | _, _, .nil => .nil
  | _, _, .cons h r => .cons (dp_same s h) (dpa_same s r)
end
theorem d0_same {K : PySem.W.Frag} {H H' : Hp} (s : Same H H') : ∀ {xs : List V} {ds : List PyData}, Paired (D0 K H) xs ds → Paired (D0 K H') xs ds
  | _, _, .nil => .nil
  | _, _, .cons h r => .cons (by
      rcases h with ⟨h, z⟩ | ⟨a, rfl, e, rfl⟩
      · exact .inl ⟨dp_same s h, z⟩
      · exact .inr ⟨a, rfl, s _ _ e, rfl⟩) (d0_same s r)
theorem Shw.same {K : PySem.W.Frag} {H H' : Hp} (s : Same H H') {x : V} {t : PySem.Str} (h : Shw K H x t) : Shw K H' x t := by
  rcases h with ⟨d, h, z⟩ | ⟨a, rfl, e, rfl⟩ | ⟨a, xs, ds, rfl, e, h, z⟩
  · exact .inl ⟨d, dp_same s h, z⟩
  · exact .inr (.inl ⟨a, rfl, s _ _ e, rfl⟩)
  · exact .inr (.inr ⟨a, xs, ds, rfl, s _ _ e, d0_same s h, z⟩)
section
variable {X : Cx} {pins : List (Addr × Obj)} {σ : L2.St} {H : Hp} {s : Shared}
theorem item_of (I : Inv X pins σ H s) {x : V} {u : Value} {d : PyData} (h : D0 X.K H x d) (r : RelV x u) : ItemOk s.heap 10 u d := by
  rcases h with ⟨h, z⟩ | ⟨a, rfl, e, rfl⟩
  · obtain ⟨as, hr⟩ := Dp.reads I d x u h r
    exact ⟨as, hr, z.showable, PyData.noDict_hsm z.noDict, z.fits (by decide), z.deep⟩
  · cases (show u = Value.ref a from r)
    obtain ⟨_, hsys, vs, kv, o, es, ep, e1, ex, e2, _, hm, _⟩ := (show ObjOk X.prog X.w H s.heap a (.dK []) from I.hok a _ e)
    cases kv
    have el : es.toList = [] := by
      cases hq : es.toList with
      | nil => rfl
      | cons x r =>
        rw [hq] at hm
        cases hm
    have rd : Reads s.heap (.ref a) (.dict []) (a :: [] ++ []) := Reads.dict e1 ex.1 e2 (by rw [el]; exact ReadsAll.nil) (by rw [el]; exact ReadsAll.nil)
    refine ⟨_, rd, by simp only [PyData.showable, PyData.showableKv], fun _ z => ?_, by simp only [PyData.shown, PyData.shownKv]; decide, by simp only [PyData.depth, PyData.depthKv]; decide⟩
    have : sysModules = a := by simpa using z
    rw [← this] at hsys
    exact absurd hsys (by simp)
theorem items_of (I : Inv X pins σ H s) : ∀ {xs : List V} {us : List Value} {ds : List PyData}, Paired (D0 X.K H) xs ds → Vals xs us → Paired (ItemOk s.heap 10) us ds
  | _, _, _, .nil, .nil => .nil
  | _, _, _, .cons h r, .cons h2 r2 => .cons (item_of I h h2) (items_of I r r2)
theorem Paired.mapK {k m : Nat} : ∀ {us : List Value} {ds : List PyData}, Paired (ItemOk s.heap k) us ds → PyData.depthAll ds ≤ m → Paired (ItemOk s.heap m) us ds
  | _, _, .nil, _ => .nil
  | _, _, .cons h r, hd => by
    simp only [PyData.depthAll] at hd
    obtain ⟨as, h1, h2, h3, h4, h5⟩ := h
    exact .cons ⟨as, h1, h2, h3, h4, Nat.le_trans (Nat.le_max_left _ _) hd⟩ (Paired.mapK r (Nat.le_trans (Nat.le_max_right _ _) hd))
theorem bulk_items : ∀ {xs : List V} {ds : List PyData}, Paired (D0 X.K H) xs ds → PyData.leavesShortAll 40 ds = true ∧ PyData.bulkAll ds ≤ ds.length * 501
  | _, _, .nil => by
    simp only [PyData.leavesShortAll, PyData.bulkAll]
    exact ⟨trivial, Nat.zero_le _⟩
  | _, _, .cons h r => by
    obtain ⟨h1, h2⟩ := bulk_items r
    have hd : ∀ {x : V} {d : PyData}, D0 X.K H x d → d.leavesShort 40 = true ∧ d.bulk ≤ 500 := by
      rintro x d (⟨_, z⟩ | ⟨a, rfl, _, rfl⟩)
      · exact ⟨z.short, z.bulk⟩
      · simp only [PyData.leavesShort, PyData.leavesShortKv, PyData.bulk, PyData.bulkKv]
        exact ⟨trivial, Nat.zero_le _⟩
    obtain ⟨h3, h4⟩ := hd h
    simp only [PyData.leavesShortAll, PyData.bulkAll]
    rw [h3, h1, List.length_cons, Nat.add_mul]
    exact ⟨rfl, by omega⟩
def rShowA (K : PySem.W.Frag) : List V → Hp → VK → Prop := fun xs H Q => ∃ x t, xs = [x] ∧ Shw K H x t ∧ Q (.str t) H
theorem call_showA (hG : X.A.guards = some []) (hu : X.A.units + 200 < cLine) : CallR X (.builtin "repr") (rShowA X.K) := by
  intro pins s σ H xs us Q I r h
  obtain ⟨x, t, rfl, h, q⟩ := h
  obtain ⟨u, rfl, rx⟩ := vals1 r
  rcases h with ⟨d, hd, z, rfl⟩ | ⟨a, rfl, e, rfl⟩ | ⟨a, xs, ds, rfl, e, hp, hl, rfl⟩
  · have fit := z.fits (by decide)
    cases hd with
    | non =>
      cases rx
      exact P.repr_of_none ⟨.str "None", H, I.tok _, ⟨_, rfl⟩, q⟩
    | bl b =>
      cases rx
      cases b
      · exact P.repr_of_bool ⟨.str (PyData.bool false).shown, H, I.tok _, ⟨_, rfl⟩, q⟩
      · exact P.repr_of_bool ⟨.str (PyData.bool true).shown, H, I.tok _, ⟨_, rfl⟩, q⟩
    | int i =>
      obtain ⟨tk, rfl⟩ := rx
      have hz : i.natAbs.log2 < 1920 := by
        have := z.showable
        simp only [PyData.showable] at this
        exact of_decide_eq_true this
      exact P.repr_of_int hz ⟨.str (PyData.int i).shown, H, I.tok _, ⟨_, rfl⟩, q⟩
    | str y =>
      obtain ⟨tk, rfl⟩ := rx
      exact P.repr_of_str ⟨.str (PyData.str y).shown, H, I.tok _, ⟨_, rfl⟩, q⟩ fit
    | @lst a xs ds hs ha =>
      obtain ⟨as, hr⟩ := Dp.reads I (.list ds) (.ref a) u (.lst hs ha) rx
      cases (show u = Value.ref a from rx)
      exact repr_of_reads' hr z.showable (PyData.noDict_hsm z.noDict) hG (by have := z.deep; omega) (fun _ _ e => e)
        (fun h' u tk hk => ⟨.str (PyData.list ds).shown, H, I.kept hk, ⟨_, rfl⟩, q⟩) fit
    | @tup a xs ds hs ha =>
      obtain ⟨as, hr⟩ := Dp.reads I (.tuple ds) (.ref a) u (.tup hs ha) rx
      cases (show u = Value.ref a from rx)
      exact repr_of_reads' hr z.showable (PyData.noDict_hsm z.noDict) hG (by have := z.deep; omega) (fun _ _ e => e)
        (fun h' u tk hk => ⟨.str (PyData.tuple ds).shown, H, I.kept hk, ⟨_, rfl⟩, q⟩) fit
  · obtain ⟨as, hr, h1, h2, h3, h4⟩ := item_of I (d := .dict []) (.inr ⟨a, rfl, e, rfl⟩) rx
    cases (show u = Value.ref a from rx)
    exact repr_of_reads' hr h1 h2 hG (by omega) (fun _ _ e => e) (fun h' u tk hk => ⟨.str (PyData.dict []).shown, H, I.kept hk, ⟨_, rfl⟩, q⟩) h3
  · cases (show u = Value.ref a from rx)
    obtain ⟨z, its, n, rv, hl', e1⟩ := I.lstM e
    have hi := items_of I hp rv
    obtain ⟨b1, b2⟩ := bulk_items hp
    have hdep := depth_items hi
    have hlen : ds.length = xs.length := (Paired.length hp).symm
    have fit : (PyData.list ds).shown.length ≤ sizeLine := by
      have b3 := PyData.shown_le_bulk 40 (by decide) (.list ds) (by simp only [PyData.leavesShort]; exact b1)
      have b4 : (PyData.list ds).bulk ≤ 700 * 501 := by
        simp only [PyData.bulk]
        exact Nat.le_trans b2 (Nat.mul_le_mul_right _ (by omega))
      have e16 : sizeLine = 16777216 := by decide
      rw [e16]
      omega
    exact repr_mixed e1 (Paired.mapK hi (Nat.le_refl _)) hG (show X.A.units + (PyData.depthAll ds + 3) < cLine by omega) rfl fit
      fun h' u tk hk => ⟨.str (PyData.list ds).shown, H, I.kept hk, ⟨_, rfl⟩, q⟩
end

/-! ### judged values in a later heap -/
theorem okv_same {H H' : Hp} (s : Same H H') {x : V} (h : OkV H x) : OkV H' x := by
  refine ⟨h.1.same s, fun a xs ex e => ?_⟩
  subst ex
  rcases h.1 with ⟨ys, e1⟩ | ⟨ys, e1⟩ | ⟨ks, e1⟩
  · have e2 := s _ _ e1
    rw [e] at e2
    cases e2
    obtain ⟨h1, h2⟩ := h.2 a xs rfl e1
    exact ⟨h1, fun y hy => (h2 y hy).same s⟩
  · have e2 := s _ _ e1
    rw [e] at e2
    cases e2
  · have e2 := s _ _ e1
    rw [e] at e2
    cases e2
theorem itemsB_same {f : List V → Bool} {H H' : Hp} (s : Same H H') : ∀ {x : V}, Kn H x → itemsB f H' x = itemsB f H x
  | .non, _ => rfl
  | .bl _, _ => rfl
  | .int _, _ => rfl
  | .str _, _ => rfl
  | .ref a, h => by
    show (match H' a with
      | some (.lst xs) => f xs
      | _ => false) = (match H a with
      | some (.lst xs) => f xs
      | _ => false)
    rcases h with ⟨xs, e⟩ | ⟨xs, e⟩ | ⟨ks, e⟩ <;> rw [s _ _ e, e]
theorem vis_le {H : Hp} {x : V} {a : Addr} {xs : List V} (h : OkV H x) (ex : x = .ref a) (e : H a = some (.lst xs)) : xs.length ≤ 4000 := (h.2 a xs ex e).1
/-- a comprehension over enumerate(a list) -/
theorem lc_enum {K : PySem.W.Frag} {a : Addr} {xs : List V} {g : TG} {tt : TT} {te : TE} {vs : List Nat} {σ : L2.St} {H1 : Hp} {D : Addr} {Qd : Hp → Prop}
    (Pv : Nat → Hp → Prop) (h0 : Pv 0 (upd H1 D (.lst []))) (hl : ∀ i H, i ≤ xs.length → Pv i H → SqL K H a xs)
    (hs : ∀ i x H T, xs[i]? = some x → Pv i H → H T = none → g (.ref T) (wipe σ vs) (upd H T (.tup [.int (i : Nat), x])) fun σ2 H2 => wipe σ2 vs = wipe σ vs ∧ tt σ2 H2 fun b H3 =>
      if b = true then te σ2 H3 fun y H4 => ∃ acc, H4 D = some (.lst acc) ∧ acc.length < sizeLine ∧ Pv (i + 1) (upd H4 D (.lst (acc ++ [y]))) else Pv (i + 1) H3)
    (hd : ∀ H, Pv xs.length H → Qd H) :
    ∃ W : Nat → Nat → Hp → Prop, (∃ m, W 0 m (upd H1 D (.lst []))) ∧ ∀ i m H, W i m H →
      ((Ite K a).stop i H ∧ Qd H) ∨ ((Ite K a).go i H ∧ ∃ Nx : Hp → Prop, (∀ H', Nx H' → ∃ m', m' < m ∧ W (i + 1) m' H') ∧
        ∀ x H', (Ite K a).yld i H x H' → g x (wipe σ vs) H' fun σ2 H2 => wipe σ2 vs = wipe σ vs ∧ tt σ2 H2 fun b H3 =>
        if b = true then te σ2 H3 fun y H4 => ∃ acc, H4 D = some (.lst acc) ∧ acc.length < sizeLine ∧ Nx (upd H4 D (.lst (acc ++ [y]))) else Nx H3) := by
  refine ⟨fun i m H => m = xs.length - i ∧ i ≤ xs.length ∧ Pv i H, ⟨xs.length, rfl, Nat.zero_le _, h0⟩, fun i m H hW => ?_⟩
  obtain ⟨rfl, hi, p⟩ := hW
  have q := hl i H hi p
  by_cases lt : i < xs.length
  · refine .inr ⟨⟨xs, xs[i], q, List.getElem?_eq_getElem lt⟩, Pv (i + 1), fun H' p' => ⟨xs.length - (i + 1), by omega, rfl, lt, p'⟩, fun v H' y => ?_⟩
    obtain ⟨T, x, rfl, hT, rfl, f⟩ := y
    exact hs i x H T (f xs q) p hT
  · have e : i = xs.length := by omega
    subst e
    exact .inl ⟨⟨xs, q, Nat.le_refl _⟩, hd H p⟩
theorem nodup_take {ns : List Int} {i : Nat} {z : Int} (h : ns[i]? = some z) : (ns.take (i + 1)).Nodup ↔ (ns.take i).Nodup ∧ z ∉ ns.take i := by
  rw [List.take_add_one, h]
  show (ns.take i ++ [z]).Nodup ↔ _
  rw [List.nodup_append]
  constructor
  · rintro ⟨h1, _, h3⟩
    exact ⟨h1, fun hz => h3 z hz z (List.mem_singleton.mpr rfl) rfl⟩
  · rintro ⟨h1, h2⟩
    exact ⟨h1, List.pairwise_singleton _ _, fun a ha b hb e => h2 (by rw [List.mem_singleton.mp hb] at e; rw [← e]; exact ha)⟩

theorem pg_tupK {X : Cx} {K : PySem.W.Frag} {pos : Pos} {es : List Expr} {k : Nat} {t : TGs} {n : Nat} (hK : X.K = K) (hc : X.calm = true) (h : PGs X es t)
    (hn : (assignEach es X.env).length = n := by rfl) (hst : (assignEach es X.env).findIdx? (·.1) = none := by rfl) :
    PG X (.Tuple es k pos) (gTup K n t) := by
  subst hK
  exact pg_tup hc h hn hst

/-! ### good items, good values -/
theorem sh_big {z : Int} (h : z.natAbs < 10 ^ 38) : Sh 0 0 (.int z) where
  showable := by
    show decide (z.natAbs.log2 < 1920) = true
    refine decide_eq_true ?_
    by_cases e : z.natAbs = 0
    · rw [e]
      decide
    · refine (Nat.log2_lt e).mpr (Nat.lt_of_lt_of_le h ?_)
      exact Nat.le_trans (show 10 ^ 38 ≤ 2 ^ 128 by decide) (Nat.pow_le_pow_right (by decide) (by decide))
  noDict := by simp only [PyData.hasDict]
  lay := by simp only [PyData.canLay0]
  short := by
    simp only [PyData.leavesShort]
    have e := int_text_length_le10 (k := 38) (by decide) h
    have e2 : (PyData.shown (.int z)).length = (toString z).length := PySem.ofString_length _
    exact decide_eq_true (by rw [e2]; omega)
  deep := by simp only [PyData.depth]; exact Nat.le_refl 0
  bulk := by simp only [PyData.bulk]; exact Nat.le_refl 0
structure Gd (K : PySem.W.Frag) (H : Hp) (x : V) : Prop where
  kn : Kn H x
  d0 : ∃ d, D0 K H x d
theorem Gd.same {K : PySem.W.Frag} {H H' : Hp} {x : V} (s : Same H H') (h : Gd K H x) : Gd K H' x := by
  obtain ⟨d, hd⟩ := h.d0
  refine ⟨h.kn.same s, d, ?_⟩
  rcases hd with ⟨h1, z⟩ | ⟨a, rfl, e, rfl⟩
  · exact .inl ⟨dp_same s h1, z⟩
  · exact .inr ⟨a, rfl, s _ _ e, rfl⟩
theorem gd_int {K : PySem.W.Frag} {H : Hp} {z : Int} (h : z.natAbs < 10 ^ 38) : Gd K H (.int z) := ⟨trivial, _, .inl ⟨.int z, (sh_big h).mono (by decide) (by decide)⟩⟩
theorem gd_bl {K : PySem.W.Frag} {H : Hp} (b : Bool) : Gd K H (.bl b) := by
  refine ⟨trivial, _, .inl ⟨.bl b, ?_⟩⟩
  cases b <;> exact ⟨by simp only [PyData.showable], by simp only [PyData.hasDict], by simp only [PyData.canLay0], by simp only [PyData.leavesShort], by simp only [PyData.depth]; decide, by simp only [PyData.bulk]; decide⟩
theorem gd_non {K : PySem.W.Frag} {H : Hp} : Gd K H .non :=
  ⟨trivial, _, .inl ⟨.non, by simp only [PyData.showable], by simp only [PyData.hasDict], by simp only [PyData.canLay0], by simp only [PyData.leavesShort], by simp only [PyData.depth]; decide, by simp only [PyData.bulk]; decide⟩⟩
theorem gd_str {K : PySem.W.Frag} {H : Hp} {x : PySem.Str} (h : PyData.canLay0 (.str x) = true) (h2 : PyData.leavesShort 40 (.str x) = true) (h3 : x.cps.size ≤ 400) : Gd K H (.str x) :=
  ⟨trivial, _, .inl ⟨.str x, by simp only [PyData.showable], by simp only [PyData.hasDict], h, h2, by simp only [PyData.depth]; decide, by simp only [PyData.bulk]; omega⟩⟩
theorem gd_dict {K : PySem.W.Frag} {H : Hp} {a : Addr} (e : H a = some (.dK [])) : Gd K H (.ref a) := ⟨.inr (.inr ⟨_, e⟩), _, .inr ⟨a, rfl, e, rfl⟩⟩
theorem gd_tup1 {K : PySem.W.Frag} {H : Hp} {a : Addr} (e : H a = some (.tup [.int 1])) : Gd K H (.ref a) := by
  refine ⟨.inr (.inl ⟨_, e⟩), .tuple [.int 1], .inl ⟨.tup (.inl (.inl e)) (.cons (.int 1) .nil), ?_⟩⟩
  exact (sh_tuple (k := 0) (n := 0) (ds := [.int 1]) fun d hd => by rw [List.mem_singleton.mp hd]; exact sh_int (by decide)).mono (by decide) (by decide)
theorem gd_nums {K : PySem.W.Frag} {H : Hp} {a : Addr} {l : List Int} (e : H a = some (.lst (l.map V.int))) (h : ∀ z ∈ l, 0 ≤ z ∧ z ≤ 1000) (hl : l.length ≤ 500) : Gd K H (.ref a) :=
  ⟨.inl ⟨_, e⟩, nD l, .inl ⟨dp_nD (.inl (.inl e)), (sh_nD h).mono (by decide) hl⟩⟩
theorem gd_paired {K : PySem.W.Frag} {H : Hp} : ∀ {xs : List V}, (∀ x ∈ xs, Gd K H x) → ∃ ds, Paired (D0 K H) xs ds
  | [], _ => ⟨[], .nil⟩
  | x :: xs, h => by
    obtain ⟨d, hd⟩ := (h x List.mem_cons_self).d0
    obtain ⟨ds, hp⟩ := gd_paired fun y hy => h y (List.mem_cons_of_mem _ hy)
    exact ⟨d :: ds, .cons hd hp⟩
/-- a value to be judged and shown -/
def Jd (K : PySem.W.Frag) (H : Hp) (x : V) : Prop := OkV H x ∧ ∃ t, Shw K H x t
theorem Jd.same {K : PySem.W.Frag} {H H' : Hp} {x : V} (s : Same H H') (h : Jd K H x) : Jd K H' x := by
  obtain ⟨h1, t, h2⟩ := h
  exact ⟨okv_same s h1, t, h2.same s⟩
theorem jd_list {K : PySem.W.Frag} {H : Hp} {a : Addr} {xs : List V} (e : H a = some (.lst xs)) (hl : xs.length ≤ 700) (h : ∀ x ∈ xs, Gd K H x) : Jd K H (.ref a) := by
  obtain ⟨ds, hp⟩ := gd_paired h
  refine ⟨⟨.inl ⟨_, e⟩, fun b ys eb ey => ?_⟩, _, .inr (.inr ⟨a, xs, ds, rfl, e, hp, hl, rfl⟩)⟩
  cases eb
  rw [e] at ey
  cases ey
  exact ⟨by omega, fun y hy => (h y hy).kn⟩
theorem jd_gd {K : PySem.W.Frag} {H : Hp} {x : V} (h : Gd K H x) (hn : ∀ a xs, x = .ref a → H a ≠ some (.lst xs)) : Jd K H x := by
  refine ⟨⟨h.kn, fun a xs ex e => absurd e (hn a xs ex)⟩, ?_⟩
  obtain ⟨d, hd⟩ := h.d0
  rcases hd with ⟨h1, z⟩ | ⟨a, rfl, e, rfl⟩
  · exact ⟨_, .inl ⟨d, h1, z.mono (by decide) (by decide), rfl⟩⟩
  · exact ⟨_, .inr (.inl ⟨a, rfl, e, rfl⟩)⟩
theorem jd_tup {K : PySem.W.Frag} {H : Hp} {a : Addr} {l : List Int} (e : H a = some (.tup (l.map V.int))) (h : ∀ z ∈ l, 0 ≤ z ∧ z ≤ 1000) (hl : l.length ≤ 1000) : Jd K H (.ref a) := by
  refine ⟨⟨.inr (.inl ⟨_, e⟩), fun b ys eb ey => ?_⟩, _, .inl ⟨.tuple (l.map .int), .tup (.inl (.inl e)) (dpa_nums l), ?_, rfl⟩⟩
  · cases eb
    rw [e] at ey
    cases ey
  · have h1 := sh_tuple (k := 0) (n := 0) (ds := l.map PyData.int) fun d hd => by
      obtain ⟨z, hz, rfl⟩ := List.mem_map.mp hd
      have := h z hz
      exact sh_int (by omega)
    rw [List.length_map] at h1
    exact h1.mono (by decide) (by omega)
theorem mem_rep {α : Type} {k : Nat} {xs : List α} {x : α} (h : x ∈ (List.replicate k xs).flatten) : x ∈ xs := by
  obtain ⟨l, hl, hx⟩ := List.mem_flatten.mp h
  rw [List.eq_of_mem_replicate hl] at hx
  exact hx
theorem len_rep {α : Type} (k : Nat) (xs : List α) : (List.replicate k xs).flatten.length = k * xs.length := by
  rw [List.length_flatten, List.map_replicate, List.sum_replicate_nat]
end Vf

set_option Elab.async false
set_option linter.all false
set_option maxRecDepth 100000
/-! set(a list of whole numbers) -/
namespace Vf
open PySem PySem.Spec PyProof.Rows L2
section
variable {P : Program} {w : World} {A : Around} {E : Value → Shared → Prop} {s : Shared}
/-- an empty set as it is first laid -/
abbrev eSet (w : World) : Obj := { cls := .type "set", dict := none, data := .set #[] 0 (.fresh 0 0 (!w.params.followText "set-order")) }
/-- what is left when the list's numbers are put into the set at S -/
def Filled (w : World) (s : Shared) (S : Addr) (ns : List Int) (t : Shared) : Prop :=
  ∃ h' tk c, t = { s with heap := h', toks := tk } ∧ SetR w h' S (fun j => decide (j ∈ ns)) c ∧ c ≤ ns.length ∧ ∀ b o, s.heap.get? b = some o → h'.get? b = some o
theorem setR_first {h : Heap} {a : Addr} {ns : List Int} (ho : h.get? a = some (eSet w)) : SetR w h a (fun j => decide (j ∈ ns.take 0)) 0 :=
  setR_new_at ho
set_option maxHeartbeats 3200000 in
theorem set_of_list {l : Addr} {items : Array Value} {ns : List Int} {Q : Value → Shared → Prop} (quiet : A.handled = none) (isl : s.heap.IsList l items) (ints0 : IntsAre items.toList ns)
    (few : ns.length + 1 < scanBound) (q : ∀ t, Filled w s s.heap.objs.size ns t → Q (.ref s.heap.objs.size) t) : wpAny (model P w) A (call (.type "set") [.ref l]) Q E s := by
  have size : items.size = ns.length := by rw [← IntsAre.length ints0, Array.length_toList]
  obtain ⟨c0, tl0, m0⟩ := F.called_set.mro
  have m1 := F.called_set.made
  have m2 := F.called_set.sub
  have m3 := F.called_set.notType
  have m4 := F.called_set.canCreate
  have m5 := F.typeCall_set_1 (.ref l)
  apply wpAny_call; apply codeAny_of_tree
  show wpAny _ _ (callAny (.type "set") _) _ _ _
  refine wpAny_pure ⟨Code.quiet_builtin _ (by decide +kernel), codeAny_builtin F.entry_type_call ?_⟩
  rw [Around.under_plain (weight_type_call_type "set" [.ref l] []) rfl]
  repeat any_goals first | assumption | wp_step
  have made := code_set_led1 (P := P) (w := w) (A := A.in1) (s := s) (.ref l) (E := E) (Q₁ := fun v t => v = .ref s.heap.objs.size ∧ t = { s with heap := s.heap.push (eSet w) }) ⟨rfl, rfl⟩
  refine codeAny_mono made fun r t ht => ?_
  match r, ht with
  | .error _, ht => exact ht
  | .ok (.ret v), ht =>
    obtain ⟨rfl, rfl⟩ := ht
    have at0 : (s.heap.push (eSet w)).get? s.heap.objs.size = some (eSet w) := Heap.get?_push_size _ rfl
    have ty0 : Shared.TypeIs { s with heap := s.heap.push (eSet w) } (.ref s.heap.objs.size) "set" := ⟨_, at0, rfl⟩
    have i1 := F.called_set.init.lookup
    have i2 := F.called_set.init.bind (.ref s.heap.objs.size)
    repeat any_goals first | assumption | wp_step
    have filled : codeAny (model P w) A.in1 (.call (.builtin "set.__init__") ⟨[.ref s.heap.objs.size, .ref l], []⟩) (wants (fun v t => v = .none ∧ Filled w s s.heap.objs.size ns t) E) { s with heap := s.heap.push (eSet w) } := by
      refine codeAny_call_builtin F.called_set.init.plain F.entry_set_init (check_set_init_1 ty0 ?_)
      obtain ⟨⟨oc, od, odt, osl⟩, lo, hoc, nl, hodt⟩ := isl
      cases hoc
      cases hodt
      have lo1 := Heap.get?_push_of_some (eSet w) lo
      have isl1 : (s.heap.push (eSet w)).IsList l items := ⟨_, lo1, rfl, nl, rfl⟩
      have b1 := F.sub_list_set
      have b2 := F.sub_list_frozenset
      have b3 : (Value.type "list" == Value.type "dict") = false := by decide
      unfold Builtin.«set.__init__» noKeywords Builtin.Frozenset.updateFrom
      generalize eIt : pyIter = itf
      wp_walk
      subst eIt
      apply wpAny_pyIter_list isl1
      apply wpAny_bind; apply wpAny_runValue
      have low : l < s.heap.objs.size := Heap.lt_size lo
      have next : (s.heap.push (eSet w)).objs.size = s.heap.objs.size + 1 := Heap.size_push ..
      have apart : l ≠ (s.heap.push (eSet w)).objs.size := next ▸ Nat.ne_of_lt (Nat.lt_succ_of_lt low)
      have mine : s.heap.objs.size ∉ [(s.heap.push (eSet w)).objs.size, l] := by
        rw [next]
        intro m
        rcases List.mem_cons.mp m with m | m
        · exact Nat.ne_of_lt (Nat.lt_succ_self _) m
        · exact Nat.ne_of_gt low (List.mem_singleton.mp m)
      have vals : ∀ i v, items[i]? = some v → ∃ k t, ns[i]? = some k ∧ v = Value.int k t := fun i v iv => by
        have lt : i < ns.length := by rw [← size]; exact (Array.getElem?_eq_some_iff.mp iv).1
        obtain ⟨t, e⟩ := IntsAre.int_at ints0 i v (by rw [Array.getElem?_toList]; exact iv)
        rw [List.getD_eq_getElem?_getD, List.getElem?_eq_getElem lt] at e
        exact ⟨_, t, List.getElem?_eq_getElem lt, e⟩
      have walk := (Walks.list (prog := P) (w := w) (A := A.in1.in1.in1) (by simp [quiet]) (s.heap.push (eSet w)).objs.size l apart items).toS
      refine set_update_ints walk s.heap.objs.size mine ns size few vals (items.size - 0) 0 _ rfl (Nat.zero_le _) ⟨⟨_, Heap.get?_push_size _ rfl, rfl, rfl⟩, isl1.push _⟩ ⟨0, Nat.le_refl 0, setR_first (Heap.get?_push_of_some _ at0)⟩ fun t c hm hc hS => ?_
      obtain ⟨h', g', d', k', o'⟩ := t
      cases (show g' = s.gens from hm.gens)
      cases (show d' = s.drawn from hm.drawn)
      cases (show o' = s.os from hm.os)
      show wpAny _ _ _ _ _ _
      refine wpAny_pure ?_
      show wpAny _ _ (ret Value.none) _ _ _
      refine wpAny_pure ⟨rfl, h', k', c, rfl, hS, size ▸ hc, fun b o e => ?_⟩
      have lt := Heap.lt_size e
      refine hm.heap b o (fun m => ?_) (Heap.get?_push_of_some _ (Heap.get?_push_of_some _ e))
      rcases List.mem_cons.mp m with m | m
      · exact Nat.ne_of_lt lt m
      · exact Nat.ne_of_lt (Nat.lt_succ_of_lt lt) ((List.mem_singleton.mp m).trans next)
    refine codeAny_mono filled fun r2 t2 ht2 => ?_
    match r2, ht2 with
    | .error _, ht2 => exact ht2
    | .ok (.ret v2), ht2 =>
      obtain ⟨rfl, f⟩ := ht2
      repeat any_goals first | assumption | wp_step
      exact q _ f
end
section
variable {X : Cx}
/-- the members of a set, each once -/
def Once (ns : List Int) (n : Nat) : Prop := ∃ ks : List Int, ks.Nodup ∧ (∀ k, k ∈ ks ↔ k ∈ ns) ∧ ks.length = n
def rSetL (w : World) (K : PySem.W.Frag) : List V → Hp → VK → Prop := fun xs H Q => ∃ (a : Addr) (ns : List Int), xs = [.ref a] ∧ SqL K H a (ns.map V.int) ∧ ns.length ≤ 4000 ∧
  ∀ (p : Addr) (n : Nat), H p = none → Once ns n → Q (.ref p) (upd H p (SetO w p (fun j => decide (j ∈ ns)) n))
theorem cr_setL (hc : X.calm = true) : CallR X (.type "set") (rSetL X.w X.K) := by
  intro pins s σ H xs us Q I r h
  obtain ⟨a, ns, rfl, hS, hl, q⟩ := h
  obtain ⟨u, rfl, rx⟩ := vals1 r
  cases (show u = Value.ref a from rx)
  obtain ⟨its, rv, pl, hz⟩ := I.list hS
  have hi : IntsAre its.toArray.toList ns := by
    rw [List.toList_toArray]
    exact ints_vals rv
  refine set_of_list (I.ok.hd hc) pl.isList hi (by show ns.length + 1 < 4096; omega) fun t f => ?_
  obtain ⟨h', tk, c, rfl, R, hc', kp⟩ := f
  have hf : H s.heap.objs.size = none := I.hok.fresh (Nat.le_refl _)
  have once : Once ns c := by
    obtain ⟨o, es, ep, t, _, _, _, _, nd, hm, _, _, hn, _⟩ := R
    refine ⟨es.toList.map keyOf, nd, fun k => ?_, by rw [List.length_map, Array.length_toList]; exact hn⟩
    rw [← hm k]
    exact decide_eq_true_iff
  exact ⟨.ref s.heap.objs.size, _, I.laid (t' := tk) kp (Nat.le_refl _) (setO_new R), rfl, q _ _ hf once⟩
end
end Vf

set_option Elab.async false
set_option linter.all false
set_option maxRecDepth 100000
namespace Vf
open PySem PySem.Spec PyProof.Rows L2
/-! ### sites -/
section
variable {X : Cx}
/-- a list of anything == [] -/
def rEqNil (K : PySem.W.Frag) : R2 := fun x y H Q => ∃ (a b : Addr) (xs : List V), x = .ref a ∧ y = .ref b ∧ SqL K H a xs ∧ SqL K H b [] ∧ Q (.bl (decide (xs.length = 0))) H
theorem op_eqNil (hu : X.A.units < cLine) : OpR X (compareOp .Eq) (rEqNil X.K) := by
  intro pins s σ H x y v u Q I rx ry h
  obtain ⟨a, b, xs, rfl, rfl, ha, hb, q⟩ := h
  cases rx
  cases ry
  obtain ⟨its, rv, pl, hz⟩ := I.list ha
  obtain ⟨its2, rv2, pl2, hz2⟩ := I.list hb
  have e2 : its2.length = 0 := rv2.length.symm
  have e1 : its.length = xs.length := rv.length.symm
  by_cases c : xs.length = 0
  · refine PySem.SeqAt.eq_listAt (e := fun _ => true) pl.isList pl2.isList (by rw [List.size_toArray, List.size_toArray, e1, e2, c]) hu (fun j h1 h2 => ?_) ?_
    · rw [List.size_toArray, e1, c] at h1
      exact absurd h1 (Nat.not_lt_zero _)
    · rw [List.size_toArray, e1, c]
      rw [decide_eq_true c] at q
      exact ⟨.bl true, H, I, rfl, q⟩
  · refine PySem.SeqAt.eq_list_lengthsAt pl.isList pl2.isList ?_ hu ?_
    · rw [List.size_toArray, List.size_toArray, e1, e2]
      exact bne_iff_ne.mpr c
    · rw [decide_eq_false c] at q
      exact ⟨.bl false, H, I, rfl, q⟩
end
theorem once_le {ns : List Int} {n m : Nat} (h : Once ns n) (b : ∀ k ∈ ns, 0 ≤ k ∧ k < (m : Int)) : n ≤ m := by
  obtain ⟨ks, nd, hm, rfl⟩ := h
  have key : ∀ (m : Nat) (ks : List Int), ks.Nodup → (∀ k ∈ ks, 0 ≤ k ∧ k < (m : Int)) → ks.length ≤ m := by
    intro m
    induction m with
    | zero =>
      intro ks _ hb
      cases ks with
      | nil => exact Nat.le_refl 0
      | cons k r =>
        have := hb k List.mem_cons_self
        omega
    | succ m ih =>
      intro ks nd hb
      have h1 := ih (ks.erase (m : Int)) (nd.erase _) (fun k hk => by
        have h2 := hb k (List.mem_of_mem_erase hk)
        have h3 : k ≠ (m : Int) := fun e => by
          rw [e] at hk
          exact (List.Nodup.mem_erase_iff nd).mp hk |>.1 rfl
        omega)
      rw [List.length_erase] at h1
      split at h1 <;> omega
  exact key m ks nd fun k hk => b k ((hm k).mp hk)
theorem strict_eq : ∀ {xs ys : List Int}, xs.Pairwise (· < ·) → ys.Pairwise (· < ·) → (∀ k, k ∈ xs ↔ k ∈ ys) → xs = ys
  | [], [], _, _, _ => rfl
  | [], y :: ys, _, _, h => absurd ((h y).mpr List.mem_cons_self) (fun z => nomatch z)
  | x :: xs, [], _, _, h => absurd ((h x).mp List.mem_cons_self) (fun z => nomatch z)
  | x :: xs, y :: ys, hx, hy, h => by
    obtain ⟨x1, x2⟩ := List.pairwise_cons.mp hx
    obtain ⟨y1, y2⟩ := List.pairwise_cons.mp hy
    have e : x = y := by
      rcases List.mem_cons.mp ((h x).mp List.mem_cons_self) with e | e
      · exact e
      rcases List.mem_cons.mp ((h y).mpr List.mem_cons_self) with e2 | e2
      · exact e2.symm
      have a := x1 _ e2
      have b := y1 _ e
      omega
    subst e
    have t : xs = ys := strict_eq x2 y2 fun k => by
      have hk := h k
      rw [List.mem_cons, List.mem_cons] at hk
      constructor
      · intro m
        rcases hk.mp (.inr m) with e | e
        · have := x1 k m
          omega
        · exact e
      · intro m
        rcases hk.mpr (.inr m) with e | e
        · have := y1 k m
          omega
        · exact e
    rw [t]
theorem sorted_iff {xs ys : List Int} (hy : ys.Pairwise (· < ·)) (h : ∀ k, k ∈ ys ↔ k ∈ xs) : xs = ys ↔ xs.Pairwise (· < ·) :=
  ⟨fun e => by rw [e]; exact hy, fun hx => strict_eq hx hy fun k => (h k).symm⟩
/-- the links of page p among m pages -/
def linkB (p : Int) (m : Int) (xs : List V) : Bool := pgsB m xs && (decide ((nums xs).Pairwise (· < ·)) && !decide (p ∈ nums xs))
/-- a value to be judged as a site -/
def Ok2 (H : Hp) (x : V) : Prop := Kn H x ∧ ∀ a xs, x = .ref a → H a = some (.lst xs) → xs.length ≤ 4000 ∧ ∀ y ∈ xs, OkV H y
theorem ok2_same {H H' : Hp} (s : Same H H') {x : V} (h : Ok2 H x) : Ok2 H' x := by
  refine ⟨h.1.same s, fun a xs ex e => ?_⟩
  subst ex
  have h1 := h.1
  have ea : H a = some (.lst xs) := by
    rcases h1 with ⟨ys, ey⟩ | ⟨ys, ey⟩ | ⟨ys, ey⟩
    · have := s _ _ ey
      rw [e] at this
      cases this
      exact ey
    · have := s _ _ ey
      rw [e] at this
      cases this
    · have := s _ _ ey
      rw [e] at this
      cases this
  obtain ⟨h2, h3⟩ := h.2 a xs rfl ea
  exact ⟨h2, fun y hy => okv_same s (h3 y hy)⟩
def rowB (H : Hp) (xs : List V) (j : Nat) : Bool := match xs[j]? with
  | some y => itemsB (linkB (j : Int) (xs.length : Int)) H y
  | none => false
def siteL (H : Hp) (xs : List V) : Bool := decide (1 ≤ xs.length) && (decide (xs.length ≤ 12) && (List.range xs.length).all (rowB H xs))
def siteB (H : Hp) (x : V) : Bool := itemsB (siteL H) H x
/-- a for statement over enumerate(a list) -/
theorem for_enum {K : PySem.W.Frag} {a : Addr} {xs : List V} {g : TG} {tb : TS} {D : Ends} {σ : L2.St} {H : Hp} (Pv : Nat → L2.St → Hp → Prop) (h0 : Pv 0 σ H)
    (hl : ∀ i σ H, i ≤ xs.length → Pv i σ H → SqL K H a xs)
    (hs : ∀ i x σ H T, xs[i]? = some x → Pv i σ H → H T = none → g (.ref T) σ (upd H T (.tup [.int (i : Nat), x])) fun σ2 H2 => tb { D with nx := Pv (i + 1), ct := Pv (i + 1), bk := D.nx } σ2 H2)
    (hd : ∀ σ H, Pv xs.length σ H → D.nx σ H) :
    ∃ W : Nat → Nat → L2.St → Hp → Prop, (∃ m, W 0 m σ H) ∧ ∀ i m σ H, W i m σ H →
      ((Ite K a).stop i H ∧ D.nx σ H) ∨ ((Ite K a).go i H ∧ ∃ Nx : L2.St → Hp → Prop, (∀ σ' H', Nx σ' H' → ∃ m', m' < m ∧ W (i + 1) m' σ' H') ∧
        ∀ y H', (Ite K a).yld i H y H' → g y σ H' fun σ2 H2 => tb { D with nx := Nx, ct := Nx, bk := D.nx } σ2 H2) := by
  refine ⟨fun i m σ H => m = xs.length - i ∧ i ≤ xs.length ∧ Pv i σ H, ⟨xs.length, rfl, Nat.zero_le _, h0⟩, fun i m σ H hW => ?_⟩
  obtain ⟨rfl, hi, p⟩ := hW
  have q := hl i σ H hi p
  by_cases lt : i < xs.length
  · refine .inr ⟨⟨xs, xs[i], q, List.getElem?_eq_getElem lt⟩, Pv (i + 1), fun σ' H' p' => ⟨xs.length - (i + 1), by omega, rfl, lt, p'⟩, fun v H' y => ?_⟩
    obtain ⟨T, x, rfl, hT, rfl, f⟩ := y
    exact hs i x σ H T (f xs q) p hT
  · have e : i = xs.length := by omega
    subst e
    exact .inl ⟨⟨xs, q, Nat.le_refl _⟩, hd σ H p⟩
theorem siteB_same {H H' : Hp} (s : Same H H') {x : V} (h : Ok2 H x) : siteB H' x = siteB H x := by
  unfold siteB
  rw [itemsB_same s h.1]
  by_cases hL : isLB H x = true
  · obtain ⟨a, xs, rfl, ea⟩ := isLB_of hL
    rw [itemsB_lst ea, itemsB_lst ea]
    obtain ⟨_, hy⟩ := h.2 a xs rfl ea
    unfold siteL
    have e : (List.range xs.length).all (rowB H' xs) = (List.range xs.length).all (rowB H xs) := by
      rw [Bool.eq_iff_iff, List.all_eq_true, List.all_eq_true]
      have k : ∀ j, rowB H' xs j = rowB H xs j := fun j => by
        unfold rowB
        cases g : xs[j]? with
        | none => rfl
        | some y => exact itemsB_same s (hy y (List.mem_of_getElem? g)).1
      constructor <;> intro w j hj
      · rw [← k j]
        exact w j hj
      · rw [k j]
        exact w j hj
    rw [e]
  · rw [itemsB_no hL, itemsB_no hL]
theorem link_of {p m : Int} {zs : List Int} (h1 : ∀ z ∈ zs, 0 ≤ z ∧ z < m ∧ z ≠ p) (h2 : zs.Pairwise (· < ·)) : linkB p m (zs.map V.int) = true := by
  unfold linkB
  rw [nums_map, decide_eq_true h2, decide_eq_false (fun w => (h1 p w).2.2 rfl)]
  have e : pgsB m (zs.map V.int) = true := List.all_eq_true.mpr fun x hx => by
    obtain ⟨z, hz, rfl⟩ := List.mem_map.mp hx
    have := h1 z hz
    show (decide (0 ≤ z) && decide (z ≤ m - 1)) = true
    rw [decide_eq_true this.1, decide_eq_true (by omega)]
    rfl
  rw [e]
  rfl
theorem link_at {p m : Int} {ys : List V} {zs : List Int} {y : V} {j : Nat} (h : linkB p m ys = true) (hj : ys[j]? = some y) (ht : ys.take j = zs.map V.int) :
    ∃ z, y = .int z ∧ 0 ≤ z ∧ z < m ∧ z ≠ p ∧ ∀ z' ∈ zs, z' < z := by
  unfold linkB at h
  rw [Bool.and_eq_true, Bool.and_eq_true] at h
  obtain ⟨h1, h2, h3⟩ := h
  have ex := nums_of (show ys.all (inRg 0 (m - 1)) = true from h1)
  have h2 := of_decide_eq_true h2
  have h3 : p ∉ nums ys := fun w => by rw [decide_eq_true w] at h3; cases h3
  rw [← ex] at hj ht h1
  generalize nums ys = ns at hj ht h1 h2 h3
  obtain ⟨z, hz, rfl⟩ := at_nums hj
  have hm := List.mem_of_getElem? hz
  have h4 : (decide (0 ≤ z) && decide (z ≤ m - 1)) = true := List.all_eq_true.mp h1 (.int z) (List.mem_map.mpr ⟨z, hm, rfl⟩)
  rw [Bool.and_eq_true] at h4
  have h5 := of_decide_eq_true h4.1
  have h6 := of_decide_eq_true h4.2
  have et : zs = ns.take j := by
    rw [← List.map_take] at ht
    have := congrArg nums ht
    rw [nums_map, nums_map] at this
    exact this.symm
  refine ⟨z, rfl, h5, by omega, fun e => h3 (e ▸ hm), fun z' hz' => ?_⟩
  have h7 : (ns.take (j + 1)).Pairwise (· < ·) := h2.sublist (List.take_sublist _ _)
  rw [List.take_add_one, hz] at h7
  rw [et] at hz'
  exact (List.pairwise_append.mp h7).2.2 z' hz' z (List.mem_singleton.mpr rfl)
/-- the links of page j in a site of n pages -/
def LinksOf (n j : Nat) (t : List Int) : Prop := (∀ z ∈ t, 0 ≤ z ∧ z < (n : Int) ∧ z ≠ (j : Int)) ∧ t.Pairwise (· < ·)
theorem Rows.mono {H H' : Hp} : ∀ {as : List Addr} {ts : List (List Int)}, Rows H as ts → (∀ a ∈ as, ∀ o, H a = some o → H' a = some o) → Rows H' as ts
  | _, _, .nil, _ => .nil
  | _, _, .cons h r, f => .cons (f _ List.mem_cons_self _ h) (Rows.mono r fun a ha => f a (List.mem_cons_of_mem _ ha))
section
variable {X : Cx}
/-- list + list, also of those that stand apart -/
def rCatL (K : PySem.W.Frag) : R2 := fun x y H Q => ∃ l b xs zs, x = .ref l ∧ y = .ref b ∧ SqL K H l xs ∧ SqL K H b zs ∧ xs.length + zs.length ≤ sizeLine ∧ ∀ p, H p = none → Q (.ref p) (upd H p (.lst (xs ++ zs)))
theorem op_catL : OpR X (binaryOp .Add) (rCatL X.K) := by
  intro pins s σ H x y v u Q I rx ry h
  obtain ⟨l, b, xs, zs, rfl, rfl, hl, hb, size, q⟩ := h
  cases rx
  cases ry
  obtain ⟨its, rv, ⟨⟨c1, d1, t1, k1⟩, n1, o1, w1, _, z1⟩, _⟩ := I.list hl
  obtain ⟨its2, rv2, ⟨⟨c2, d2, t2, k2⟩, n2, o2, w2, _, z2⟩, _⟩ := I.list hb
  cases w1
  cases w2
  cases z1
  cases z2
  have l1 := rv.length
  have l2 := rv2.length
  have fits : its.toArray.size + its2.toArray.size ≤ sizeLine := by
    rw [List.size_toArray, List.size_toArray]
    omega
  have run := PyProof.Rows.list_addW l b its.toArray its2.toArray n1 n2 d1 d2 k1 k2 fits
  refine PySem.concat_meets ⟨_, o1, rfl⟩ ⟨_, o2, rfl⟩ PySem.noFill_list_add PySem.seq_list_add PySem.F.slot_list_add PySem.F.entry_list_add (PySem.F.args_list_add_2 _ _) run ⟨o1, o2, ?_⟩
  rw [show its.toArray ++ its2.toArray = (its ++ its2).toArray by simp]
  refine ⟨.ref s.heap.objs.size, _, I.lnew (t' := s.toks) (rv.append rv2) (by rw [List.length_append]; omega), rfl, q _ I.fresh⟩
end
end Vf

set_option Elab.async false
set_option linter.all false
set_option maxRecDepth 100000
namespace Vf
open PySem PySem.Spec PyProof.Rows L2
/-! ### values that are shown and judged as sites: items of rows, rows, whole values -/
structure Gi (K : PySem.W.Frag) (H : Hp) (x : V) : Prop where
  kn : Kn H x
  dp : ∃ d, Dp K H x d ∧ Sh 2 20 d
structure Gr (K : PySem.W.Frag) (H : Hp) (x : V) : Prop where
  ok : OkV H x
  d0 : ∃ d, D0 K H x d
def Js (K : PySem.W.Frag) (H : Hp) (x : V) : Prop := Ok2 H x ∧ ∃ t, Shw K H x t
theorem gr_paired {K : PySem.W.Frag} {H : Hp} : ∀ {xs : List V}, (∀ x ∈ xs, Gr K H x) → ∃ ds, Paired (D0 K H) xs ds
  | [], _ => ⟨[], .nil⟩
  | x :: xs, h => by
    obtain ⟨d, hd⟩ := (h x List.mem_cons_self).d0
    obtain ⟨ds, hp⟩ := gr_paired fun y hy => h y (List.mem_cons_of_mem _ hy)
    exact ⟨d :: ds, .cons hd hp⟩
theorem gi_all {K : PySem.W.Frag} {H : Hp} : ∀ {xs : List V}, (∀ x ∈ xs, Gi K H x) → ∃ ds, DpAll K H xs ds ∧ ds.length = xs.length ∧ ∀ d ∈ ds, Sh 2 20 d
  | [], _ => ⟨[], .nil, rfl, fun _ h => nomatch h⟩
  | x :: xs, h => by
    obtain ⟨d, hd, sh⟩ := (h x List.mem_cons_self).dp
    obtain ⟨ds, hp, hl, hs⟩ := gi_all fun y hy => h y (List.mem_cons_of_mem _ hy)
    exact ⟨d :: ds, .cons hd hp, by rw [List.length_cons, List.length_cons, hl], fun e he => by
      rcases List.mem_cons.mp he with rfl | he
      · exact sh
      · exact hs e he⟩
theorem gi_int {K : PySem.W.Frag} {H : Hp} {z : Int} (h : z.natAbs < 10 ^ 38) : Gi K H (.int z) := ⟨trivial, _, .int z, (sh_big h).mono (by decide) (by decide)⟩
theorem gi_bl {K : PySem.W.Frag} {H : Hp} (b : Bool) : Gi K H (.bl b) := by
  refine ⟨trivial, _, .bl b, ?_⟩
  cases b <;> exact ⟨by simp only [PyData.showable], by simp only [PyData.hasDict], by simp only [PyData.canLay0], by simp only [PyData.leavesShort], by simp only [PyData.depth]; decide, by simp only [PyData.bulk]; decide⟩
theorem gi_non {K : PySem.W.Frag} {H : Hp} : Gi K H .non :=
  ⟨trivial, _, .non, by simp only [PyData.showable], by simp only [PyData.hasDict], by simp only [PyData.canLay0], by simp only [PyData.leavesShort], by simp only [PyData.depth]; decide, by simp only [PyData.bulk]; decide⟩
theorem gi_str {K : PySem.W.Frag} {H : Hp} {x : PySem.Str} (h : PyData.canLay0 (.str x) = true) (h2 : PyData.leavesShort 40 (.str x) = true) (h3 : x.cps.size ≤ 15) : Gi K H (.str x) :=
  ⟨trivial, _, .str x, by simp only [PyData.showable], by simp only [PyData.hasDict], h, h2, by simp only [PyData.depth]; decide, by simp only [PyData.bulk]; omega⟩
theorem gi_nums {K : PySem.W.Frag} {H : Hp} {a : Addr} {l : List Int} (e : H a = some (.lst (l.map V.int))) (h : ∀ z ∈ l, 0 ≤ z ∧ z ≤ 1000) (hl : l.length ≤ 20) : Gi K H (.ref a) :=
  ⟨.inl ⟨_, e⟩, nD l, dp_nD (.inl (.inl e)), (sh_nD h).mono (by decide) hl⟩
theorem gi_tup0 {K : PySem.W.Frag} {H : Hp} {a : Addr} (e : H a = some (.tup [.int 0])) : Gi K H (.ref a) := by
  refine ⟨.inr (.inl ⟨_, e⟩), .tuple [.int 0], .tup (.inl (.inl e)) (.cons (.int 0) .nil), ?_⟩
  exact (sh_tuple (k := 0) (n := 0) (ds := [.int 0]) fun d hd => by rw [List.mem_singleton.mp hd]; exact sh_int (by decide)).mono (by decide) (by decide)
theorem okv_flat {H : Hp} {x : V} (h : Kn H x) (hn : ∀ a xs, x = .ref a → H a ≠ some (.lst xs)) : OkV H x := ⟨h, fun a xs ex e => absurd e (hn a xs ex)⟩
theorem okv_list {H : Hp} {a : Addr} {xs : List V} (e : H a = some (.lst xs)) (hl : xs.length ≤ 4000) (h : ∀ y ∈ xs, Kn H y) : OkV H (.ref a) := by
  refine ⟨.inl ⟨_, e⟩, fun b ys eb ey => ?_⟩
  cases eb
  rw [e] at ey
  cases ey
  exact ⟨hl, h⟩
theorem gr_items {K : PySem.W.Frag} {H : Hp} {a : Addr} {xs : List V} (e : H a = some (.lst xs)) (hl : xs.length ≤ 23) (h : ∀ x ∈ xs, Gi K H x) : Gr K H (.ref a) := by
  obtain ⟨ds, hp, he, hs⟩ := gi_all h
  refine ⟨okv_list e (by omega) fun y hy => (h y hy).kn, .list ds, .inl ⟨.lst (.inl (.inl e)) hp, (sh_list hs).mono (by decide) ?_⟩⟩
  rw [he]
  omega
theorem gr_nums {K : PySem.W.Frag} {H : Hp} {a : Addr} {l : List Int} (e : H a = some (.lst (l.map V.int))) (h : ∀ z ∈ l, 0 ≤ z ∧ z ≤ 1000) (hl : l.length ≤ 500) : Gr K H (.ref a) :=
  ⟨okv_nums e (by omega), nD l, .inl ⟨dp_nD (.inl (.inl e)), (sh_nD h).mono (by decide) hl⟩⟩
theorem gr_tup {K : PySem.W.Frag} {H : Hp} {a : Addr} {l : List Int} (e : H a = some (.tup (l.map V.int))) (h : ∀ z ∈ l, 0 ≤ z ∧ z ≤ 1000) (hl : l.length ≤ 500) : Gr K H (.ref a) := by
  refine ⟨okv_flat (.inr (.inl ⟨_, e⟩)) (fun b xs eb ex => by cases eb; rw [e] at ex; cases ex), .tuple (l.map .int), .inl ⟨.tup (.inl (.inl e)) (dpa_nums l), ?_⟩⟩
  have h1 := sh_tuple (k := 0) (n := 0) (ds := l.map PyData.int) fun d hd => by
    obtain ⟨z, hz, rfl⟩ := List.mem_map.mp hd
    have := h z hz
    exact sh_int (by omega)
  rw [List.length_map] at h1
  exact h1.mono (by decide) (by omega)
theorem gr_gi {K : PySem.W.Frag} {H : Hp} {x : V} (h : Gi K H x) (hn : ∀ a xs, x = .ref a → H a ≠ some (.lst xs)) : Gr K H x := by
  obtain ⟨d, hd, sh⟩ := h.dp
  exact ⟨okv_flat h.kn hn, d, .inl ⟨hd, sh.mono (by decide) (by decide)⟩⟩
theorem gr_dict {K : PySem.W.Frag} {H : Hp} {a : Addr} (e : H a = some (.dK [])) : Gr K H (.ref a) :=
  ⟨okv_flat (.inr (.inr ⟨_, e⟩)) (fun b xs eb ex => by cases eb; rw [e] at ex; cases ex), _, .inr ⟨a, rfl, e, rfl⟩⟩
/-- a list of rows of numbers, as a row -/
theorem gr_rows {K : PySem.W.Frag} {H : Hp} {a : Addr} {as : List Addr} {ts : List (List Int)} (e : H a = some (.lst (as.map V.ref))) (R : Rows H as ts) (hl : as.length ≤ 20) (ht : ∀ t ∈ ts, t.length ≤ 20 ∧ ∀ z ∈ t, 0 ≤ z ∧ z ≤ 1000) : Gr K H (.ref a) := by
  refine ⟨okv_list e (by rw [List.length_map]; omega) fun y hy => ?_, nnD ts, .inl ⟨dp_nnD e R, (sh_nnD ht).mono (by decide) ?_⟩⟩
  · obtain ⟨r, hr, rfl⟩ := List.mem_map.mp hy
    obtain ⟨t, _, et⟩ := R.mem hr
    exact .inl ⟨_, et⟩
  · have := R.length
    have h2 : ts.length ≤ 20 := by omega
    have h3 : ts.length * (20 + 1) ≤ 20 * (20 + 1) := Nat.mul_le_mul_right _ h2
    omega
theorem js_list {K : PySem.W.Frag} {H : Hp} {a : Addr} {xs : List V} (e : H a = some (.lst xs)) (hl : xs.length ≤ 700) (h : ∀ x ∈ xs, Gr K H x) : Js K H (.ref a) := by
  obtain ⟨ds, hp⟩ := gr_paired h
  refine ⟨⟨.inl ⟨_, e⟩, fun b ys eb ey => ?_⟩, _, .inr (.inr ⟨a, xs, ds, rfl, e, hp, hl, rfl⟩)⟩
  cases eb
  rw [e] at ey
  cases ey
  exact ⟨by omega, fun y hy => (h y hy).ok⟩
theorem js_gr {K : PySem.W.Frag} {H : Hp} {x : V} (h : Gr K H x) (hn : ∀ a xs, x = .ref a → H a ≠ some (.lst xs)) : Js K H x := by
  refine ⟨⟨h.ok.1, fun a xs ex e => absurd e (hn a xs ex)⟩, ?_⟩
  obtain ⟨d, hd⟩ := h.d0
  rcases hd with ⟨h1, z⟩ | ⟨a, rfl, e, rfl⟩
  · exact ⟨_, .inl ⟨d, h1, z.mono (by decide) (by decide), rfl⟩⟩
  · exact ⟨_, .inr (.inl ⟨a, rfl, e, rfl⟩)⟩
theorem js_tupRows {K : PySem.W.Frag} {H : Hp} {a : Addr} {as : List Addr} {ts : List (List Int)} (e : H a = some (.tup (as.map V.ref))) (R : Rows H as ts) (hl : as.length ≤ 20) (ht : ∀ t ∈ ts, t.length ≤ 20 ∧ ∀ z ∈ t, 0 ≤ z ∧ z ≤ 1000) : Js K H (.ref a) := by
  refine ⟨⟨.inr (.inl ⟨_, e⟩), fun b ys eb ey => by cases eb; rw [e] at ey; cases ey⟩, _, .inl ⟨.tuple (ts.map nD), .tup (.inl (.inl e)) (dpa_rows R), ?_, rfl⟩⟩
  have h1 := sh_tuple (k := 1) (n := 20) (ds := ts.map nD) fun d hd => by
    obtain ⟨t, hm, rfl⟩ := List.mem_map.mp hd
    exact (sh_nD (ht t hm).2).mono (by decide) (ht t hm).1
  rw [List.length_map] at h1
  have h2 := R.length
  have h3 : ts.length * (20 + 1) ≤ 20 * (20 + 1) := Nat.mul_le_mul_right _ (by omega)
  exact h1.mono (by decide) (by omega)
theorem links_len {n j : Nat} {t : List Int} (h : LinksOf n j t) : t.length ≤ n := by
  refine once_le (ns := t) ⟨t, ?_, fun k => Iff.rfl, rfl⟩ fun k hk => ⟨(h.1 k hk).1, (h.1 k hk).2.1⟩
  exact h.2.imp fun hlt e => by omega
theorem ne_of_pl {H : Hp} {p c : Addr} {n : Nat} (P : Pl H p n) (hc : H c = none) : c ≠ p := fun e => by
  obtain ⟨o, eo⟩ := P.at
  rw [e, eo] at hc
  cases hc
/-- what is known while the drawer at p goes on: the site at L, items, rows and values -/
structure Wb (K : PySem.W.Frag) (p L : Addr) (as : List Addr) (ts : List (List Int)) (n : Nat) (is gs js : List V) (H : Hp) : Prop where
  pl : Pl H p n
  net : H L = some (.lst (as.map V.ref))
  rows : Rows H as ts
  nLp : L ≠ p
  nap : ∀ r ∈ as, r ≠ p
  hi : ∀ x ∈ is, ∀ G, But p H G → Gi K G x
  hg : ∀ x ∈ gs, ∀ G, But p H G → Gr K G x
  hj : ∀ x ∈ js, ∀ G, But p H G → Js K G x
section
variable {K : PySem.W.Frag} {p L : Addr} {as : List Addr} {ts : List (List Int)} {n : Nat} {is gs js : List V} {H H' : Hp}
theorem Wb.step {n' : Nat} (h : Wb K p L as ts n is gs js H) (b : But p H H') (P : Pl H' p n') : Wb K p L as ts n' is gs js H' where
  pl := P
  net := b _ _ h.nLp h.net
  rows := h.rows.mono fun r hr o e => b r o (h.nap r hr) e
  nLp := h.nLp
  nap := h.nap
  hi := fun x hx G bg => h.hi x hx G (b.trans bg)
  hg := fun x hx G bg => h.hg x hx G (b.trans bg)
  hj := fun x hx G bg => h.hj x hx G (b.trans bg)
theorem Wb.new {c : Addr} {o : HO} (h : Wb K p L as ts n is gs js H) (hc : H c = none) : Wb K p L as ts n is gs js (upd H c o) :=
  h.step (.of_same (same_new hc)) (h.pl.same (same_new hc))
theorem more {α : Type} {P : α → Prop} {x : α} {xs : List α} (h : ∀ y ∈ xs, P y) (g : P x) : ∀ y ∈ x :: xs, P y := fun y hy => by
  rcases List.mem_cons.mp hy with rfl | hy
  · exact g
  · exact h y hy
theorem Wb.addI {x : V} (h : Wb K p L as ts n is gs js H) (g : ∀ G, But p H G → Gi K G x) : Wb K p L as ts n (x :: is) gs js H :=
  ⟨h.pl, h.net, h.rows, h.nLp, h.nap, more h.hi g, h.hg, h.hj⟩
theorem Wb.addG {x : V} (h : Wb K p L as ts n is gs js H) (g : ∀ G, But p H G → Gr K G x) : Wb K p L as ts n is (x :: gs) js H :=
  ⟨h.pl, h.net, h.rows, h.nLp, h.nap, h.hi, more h.hg g, h.hj⟩
theorem Wb.addJ {x : V} (h : Wb K p L as ts n is gs js H) (g : ∀ G, But p H G → Js K G x) : Wb K p L as ts n is gs (x :: js) H :=
  ⟨h.pl, h.net, h.rows, h.nLp, h.nap, h.hi, h.hg, more h.hj g⟩
theorem Wb.alloc {o : HO} {Q : V → Hp → Prop} (h : Wb K p L as ts n is gs js H) (k : ∀ c H', Wb K p L as ts n is gs js H' → c ≠ p → Same H H' → H' c = some o → Q (.ref c) H') : ∀ c, H c = none → Q (.ref c) (upd H c o) :=
  fun c hc => k c _ (h.new hc) (ne_of_pl h.pl hc) (same_new hc) upd_same
theorem Wb.row (h : Wb K p L as ts n is gs js H) (ht : ∀ t ∈ ts, t.length ≤ 12 ∧ Pgs t) {a : Addr} (ha : a ∈ as) : ∀ G, But p H G → Gr K G (.ref a) := fun G b => by
  obtain ⟨t, hm, e⟩ := h.rows.mem ha
  obtain ⟨h1, h2⟩ := ht t hm
  exact gr_nums (b _ _ (h.nap a ha) e) (fun z hz => by have := h2 z hz; omega) (by omega)
theorem Wb.rowsG (h : Wb K p L as ts n is gs js H) {G : Hp} (b : But p H G) : Rows G as ts := h.rows.mono fun r hr o e => b r o (h.nap r hr) e
end
theorem Rows.set {H : Hp} : ∀ {as : List Addr} {ts : List (List Int)} {j : Nat} {r : Addr} (t' : List Int), Rows H as ts → as.Nodup → as[j]? = some r → Rows (upd H r (.lst (t'.map V.int))) as (ts.set j t')
  | a :: as, t :: ts, 0, r, t', .cons h R, nd, e => by
    cases (Option.some.inj e)
    obtain ⟨n1, n2⟩ := List.nodup_cons.mp nd
    exact .cons upd_same (Rows.mono R fun b hb o eo => (upd_ne fun w : b = a => n1 (by rw [← w]; exact hb)).trans eo)
  | a :: as, t :: ts, j + 1, r, t', .cons h R, nd, e => by
    obtain ⟨n1, n2⟩ := List.nodup_cons.mp nd
    have hr : r ∈ as := List.mem_of_getElem? (show as[j]? = some r from e)
    exact .cons ((upd_ne fun w : a = r => n1 (by rw [w]; exact hr)).trans h) (Rows.set t' R n2 e)
theorem js_rows {K : PySem.W.Frag} {H : Hp} {a : Addr} {as : List Addr} {ts : List (List Int)} (e : H a = some (.lst (as.map V.ref))) (R : Rows H as ts) (hl : as.length ≤ 20) (ht : ∀ t ∈ ts, t.length ≤ 500 ∧ ∀ z ∈ t, 0 ≤ z ∧ z ≤ 1000) : Js K H (.ref a) :=
  js_list e (by rw [List.length_map]; omega) fun x hx => by
    obtain ⟨r, hr, rfl⟩ := List.mem_map.mp hx
    obtain ⟨t, hm, et⟩ := R.mem hr
    exact gr_nums et (ht t hm).2 (ht t hm).1
/-- rows of anything -/
def RowsV (H : Hp) : List Addr → List (List V) → Prop := Paired fun a t => H a = some (.lst t)
def siteV (vs : List (List V)) : Bool := decide (1 ≤ vs.length) && (decide (vs.length ≤ 12) && (List.range vs.length).all fun j => match vs[j]? with
  | some t => linkB (j : Int) (vs.length : Int) t
  | none => false)
theorem RowsV.at {H : Hp} : ∀ {as : List Addr} {vs : List (List V)} (j : Nat), RowsV H as vs → (as[j]? = none ∧ vs[j]? = none) ∨ ∃ a t, as[j]? = some a ∧ vs[j]? = some t ∧ H a = some (.lst t)
  | [], [], j, .nil => .inl ⟨by simp, by simp⟩
  | a :: as, t :: vs, 0, .cons h _ => .inr ⟨a, t, rfl, rfl, h⟩
  | a :: as, t :: vs, j + 1, .cons _ r => RowsV.at (H := H) (as := as) (vs := vs) j r
theorem siteB_rows {H : Hp} {a : Addr} {as : List Addr} {vs : List (List V)} (e : H a = some (.lst (as.map V.ref))) (R : RowsV H as vs) : siteB H (.ref a) = siteV vs := by
  unfold siteB
  rw [itemsB_lst e]
  unfold siteL siteV
  have hl : (as.map V.ref).length = vs.length := by rw [List.length_map]; exact Paired.length R
  rw [hl]
  have k : ∀ j, rowB H (as.map V.ref) j = (match vs[j]? with
      | some t => linkB (j : Int) (vs.length : Int) t
      | none => false) := fun j => by
    unfold rowB
    rw [hl, List.getElem?_map]
    rcases RowsV.at j R with ⟨h1, h2⟩ | ⟨b, t, h1, h2, h3⟩
    · rw [h1, h2]
      rfl
    · rw [h1, h2]
      show itemsB _ H (.ref b) = _
      rw [itemsB_lst h3]
  rw [show rowB H (as.map V.ref) = _ from funext k]
theorem rowsV_of {H : Hp} : ∀ {as : List Addr} {ts : List (List Int)}, Rows H as ts → RowsV H as (ts.map fun t => t.map V.int)
  | _, _, .nil => .nil
  | _, _, .cons h r => .cons h (rowsV_of r)
theorem first_at {t : List Int} {z : Int} (h : z ∈ t) : t[t.idxOf z]? = some z ∧ ∀ m : Nat, m < t.idxOf z → t[m]? ≠ some z := by
  obtain ⟨i1, _, i3⟩ := idx_nums h
  obtain ⟨z2, e, e2⟩ := at_nums i1
  cases e2
  refine ⟨e, fun m hm w => ?_⟩
  have h2 : (z == z) = false := i3 m (.int z) hm (by rw [List.getElem?_map, w]; rfl)
  rw [beq_self_eq_true] at h2
  cases h2
/-- a value that can be judged, and the answer -/
def Jv (H : Hp) (x : V) (b : Bool) : Prop := Ok2 H x ∧ siteB H x = b
theorem Jv.same {H H' : Hp} {x : V} {b : Bool} (s : Same H H') (h : Jv H x b) : Jv H' x b := ⟨ok2_same s h.1, (siteB_same s h.1).trans h.2⟩
theorem RowsV.mem {H : Hp} : ∀ {as : List Addr} {vs : List (List V)} {a : Addr}, RowsV H as vs → a ∈ as → ∃ t ∈ vs, H a = some (.lst t)
  | _, _, _, .nil, h => nomatch h
  | _, _, _, .cons h r, m => by
    rcases List.mem_cons.mp m with rfl | m
    · exact ⟨_, List.mem_cons_self, h⟩
    · obtain ⟨t, h1, h2⟩ := RowsV.mem r m
      exact ⟨t, List.mem_cons_of_mem _ h1, h2⟩
theorem jv_rows {H : Hp} {a : Addr} {as : List Addr} {vs : List (List V)} {b : Bool} (e : H a = some (.lst (as.map V.ref))) (R : RowsV H as vs) (hl : as.length ≤ 4000) (ht : ∀ t ∈ vs, t.length ≤ 4000 ∧ ∀ y ∈ t, Kn H y) (hb : siteV vs = b) : Jv H (.ref a) b := by
  refine ⟨⟨.inl ⟨_, e⟩, fun c ys ec ey => ?_⟩, (siteB_rows e R).trans hb⟩
  cases ec
  rw [e] at ey
  cases ey
  refine ⟨by rw [List.length_map]; exact hl, fun y hy => ?_⟩
  obtain ⟨r, hr, rfl⟩ := List.mem_map.mp hy
  obtain ⟨t, hm, et⟩ := R.mem hr
  exact okv_list et (ht t hm).1 (ht t hm).2
def rowF (i o : Nat) : List Int := ((List.range o).filter fun j => decide (j ≠ i)).map Int.ofNat
theorem rowF_succ (i o : Nat) : rowF i (o + 1) = if o = i then rowF i o else rowF i o ++ [(o : Int)] := by
  unfold rowF
  rw [List.range_succ, List.filter_append]
  by_cases e : o = i
  · rw [if_pos e]
    have : [o].filter (fun j => decide (j ≠ i)) = [] := by simp [e]
    rw [this, List.append_nil]
  · rw [if_neg e]
    have : [o].filter (fun j => decide (j ≠ i)) = [o] := by simp [e]
    rw [this, List.map_append]
    rfl
theorem rowF_len (i o : Nat) : (rowF i o).length ≤ o := by
  unfold rowF
  rw [List.length_map]
  exact Nat.le_trans (List.length_filter_le _ _) (by rw [List.length_range]; exact Nat.le_refl _)
def tsF : List (List V) := (List.range 12).map fun i => (rowF i 12).map V.int
theorem siteV_full : siteV tsF = true := by decide +kernel
theorem siteV_more : siteV (tsF ++ [[]]) = false := by decide +kernel
theorem siteV_12 : siteV (List.replicate 12 []) = true := by decide +kernel
theorem siteV_13 : siteV (List.replicate 13 []) = false := by decide +kernel
theorem siteV_a : siteV [[.int 1], [.bl true]] = false := by decide +kernel
theorem siteV_b : siteV [[], [.int 0]] = true := by decide +kernel
theorem siteV_c : siteV [[.int 0]] = false := by decide +kernel
theorem siteV_d : siteV [[.int 1], [.int 0], [.int 2]] = false := by decide +kernel
theorem siteV_n (c : Addr) : siteV [[.ref c]] = false := by
  have h : linkB 0 1 [.ref c] = false := by
    unfold linkB
    have : pgsB 1 [.ref c] = false := rfl
    rw [this, Bool.false_and]
  show (decide (1 ≤ 1) && (decide (1 ≤ 12) && (linkB 0 1 [.ref c] && true))) = false
  rw [h]
  rfl
theorem RowsV.snoc {H : Hp} {a : Addr} {t : List V} (h : H a = some (.lst t)) : ∀ {as : List Addr} {vs : List (List V)}, RowsV H as vs → RowsV H (as ++ [a]) (vs ++ [t])
  | _, _, .nil => .cons h .nil
  | _, _, .cons h' r => .cons h' (RowsV.snoc h r)
theorem RowsV.mono {H H' : Hp} : ∀ {as : List Addr} {vs : List (List V)}, RowsV H as vs → (∀ a ∈ as, ∀ o, H a = some o → H' a = some o) → RowsV H' as vs
  | _, _, .nil, _ => .nil
  | _, _, .cons h r, f => .cons (f _ List.mem_cons_self _ h) (RowsV.mono r fun a ha => f a (List.mem_cons_of_mem _ ha))
theorem rowsV_rep {H : Hp} {a : Addr} {t : List V} (h : H a = some (.lst t)) : ∀ n : Nat, RowsV H (List.replicate n a) (List.replicate n t)
  | 0 => .nil
  | n + 1 => .cons h (rowsV_rep h n)
def bD (bs : List Bool) : PyData := .list (bs.map .bool)
theorem dpa_bools {K : PySem.W.Frag} {H : Hp} : ∀ bs : List Bool, DpAll K H (bs.map V.bl) (bs.map PyData.bool)
  | [] => .nil
  | b :: bs => .cons (.bl b) (dpa_bools bs)
theorem dp_bD {K : PySem.W.Frag} {H : Hp} {a : Addr} {bs : List Bool} (h : SqL K H a (bs.map V.bl)) : Dp K H (.ref a) (bD bs) := .lst h (dpa_bools bs)
end Vf

set_option Elab.async false
set_option linter.all false
set_option maxRecDepth 100000
namespace Vf
open PySem PySem.Spec PyProof.Rows L2
/-! ### valid sites -/
/-- a comprehension over zip(a list, a list) -/
theorem lc_zip {K : PySem.W.Frag} {a b : Addr} {xs ys : List V} {g : TG} {tt : TT} {te : TE} {vs : List Nat} {σ : L2.St} {H1 : Hp} {D : Addr} {Qd : Hp → Prop} {n : Nat} (hn : n = min xs.length ys.length)
    (Pv : Nat → Hp → Prop) (h0 : Pv 0 (upd H1 D (.lst []))) (hl : ∀ i H, Pv i H → SqL K H a xs ∧ SqL K H b ys)
    (hs : ∀ i x y H T, xs[i]? = some x → ys[i]? = some y → Pv i H → H T = none → g (.ref T) (wipe σ vs) (upd H T (.tup [x, y])) fun σ2 H2 => wipe σ2 vs = wipe σ vs ∧ tt σ2 H2 fun b H3 =>
      if b = true then te σ2 H3 fun y H4 => ∃ acc, H4 D = some (.lst acc) ∧ acc.length < sizeLine ∧ Pv (i + 1) (upd H4 D (.lst (acc ++ [y]))) else Pv (i + 1) H3)
    (hd : ∀ H, Pv n H → Qd H) :
    ∃ W : Nat → Nat → Hp → Prop, (∃ m, W 0 m (upd H1 D (.lst []))) ∧ ∀ i m H, W i m H →
      ((Itz K a b).stop i H ∧ Qd H) ∨ ((Itz K a b).go i H ∧ ∃ Nx : Hp → Prop, (∀ H', Nx H' → ∃ m', m' < m ∧ W (i + 1) m' H') ∧
        ∀ x H', (Itz K a b).yld i H x H' → g x (wipe σ vs) H' fun σ2 H2 => wipe σ2 vs = wipe σ vs ∧ tt σ2 H2 fun b H3 =>
        if b = true then te σ2 H3 fun y H4 => ∃ acc, H4 D = some (.lst acc) ∧ acc.length < sizeLine ∧ Nx (upd H4 D (.lst (acc ++ [y]))) else Nx H3) := by
  refine ⟨fun i m H => m = n - i ∧ i ≤ n ∧ Pv i H, ⟨n, rfl, Nat.zero_le _, h0⟩, fun i m H hW => ?_⟩
  obtain ⟨rfl, hi, p⟩ := hW
  obtain ⟨q1, q2⟩ := hl i H p
  by_cases lt : i < n
  · have lx : i < xs.length := by omega
    have ly : i < ys.length := by omega
    refine .inr ⟨⟨xs, ys, xs[i], ys[i], q1, q2, List.getElem?_eq_getElem lx, List.getElem?_eq_getElem ly⟩, Pv (i + 1), fun H' p' => ⟨n - (i + 1), by omega, rfl, lt, p'⟩, fun v H' w => ?_⟩
    obtain ⟨T, x, y, rfl, hT, rfl, f1, f2⟩ := w
    exact hs i x y H T (f1 xs q1) (f2 ys q2) p hT
  · have e : i = n := by omega
    refine .inl ⟨⟨xs, ys, q1, q2, by omega⟩, hd H (e ▸ p)⟩
/-- a valid site at L -/
structure Net (H : Hp) (L : Addr) (as : List Addr) (ts : List (List Int)) : Prop where
  net : H L = some (.lst (as.map V.ref))
  rows : Rows H as ts
  low : 1 ≤ as.length
  high : as.length ≤ 12
  links : ∀ j t, ts[j]? = some t → LinksOf as.length j t
theorem Net.same {H H' : Hp} {L : Addr} {as : List Addr} {ts : List (List Int)} (s : Same H H') (h : Net H L as ts) : Net H' L as ts :=
  ⟨s _ _ h.net, h.rows.same s, h.low, h.high, h.links⟩
theorem Net.row {H : Hp} {L : Addr} {as : List Addr} {ts : List (List Int)} (h : Net H L as ts) {j : Nat} (hj : j < as.length) : ∃ r t, as[j]? = some r ∧ ts[j]? = some t ∧ H r = some (.lst (t.map V.int)) ∧ t.length ≤ 12 := by
  obtain ⟨t, h1, h2⟩ := h.rows.at (List.getElem?_eq_getElem hj)
  exact ⟨_, t, List.getElem?_eq_getElem hj, h1, h2, Nat.le_trans (links_len (h.links j t h1)) h.high⟩
theorem Net.site {H : Hp} {L : Addr} {as : List Addr} {ts : List (List Int)} (h : Net H L as ts) : siteB H (.ref L) = true := by
  rw [siteB_rows h.net (rowsV_of h.rows)]
  unfold siteV
  have e : as.length = ts.length := h.rows.length
  have h1 := h.low
  have h2 := h.high
  rw [List.length_map, decide_eq_true (by omega), decide_eq_true (by omega), Bool.true_and, Bool.true_and]
  refine List.all_eq_true.mpr fun j hj => ?_
  have hj' := List.mem_range.mp hj
  rw [List.getElem?_map, List.getElem?_eq_getElem hj']
  show linkB (j : Int) (ts.length : Int) (ts[j].map V.int) = true
  have h3 := h.links j ts[j] (List.getElem?_eq_getElem hj')
  rw [e] at h3
  exact link_of h3.1 h3.2
theorem Net.ok {H : Hp} {L : Addr} {as : List Addr} {ts : List (List Int)} (h : Net H L as ts) : Ok2 H (.ref L) := by
  refine ⟨.inl ⟨_, h.net⟩, fun a xs e ex => ?_⟩
  cases e
  rw [h.net] at ex
  cases ex
  have h2 := h.high
  refine ⟨by rw [List.length_map]; omega, fun y hy => ?_⟩
  obtain ⟨r, hr, rfl⟩ := List.mem_map.mp hy
  obtain ⟨j, hj⟩ := List.mem_iff_getElem?.mp hr
  obtain ⟨t, h3, h4⟩ := h.rows.at hj
  exact okv_nums h4 (Nat.le_trans (links_len (h.links j t h3)) (by omega))
/-- whether each page of l links to the next one -/
def linkAt (ts : List (List Int)) (l : List Int) (i : Nat) : Bool := decide (l.getD (i + 1) 0 ∈ ts.getD (l.getD i 0).toNat [])
def linkedB (ts : List (List Int)) (l : List Int) : Bool := (List.range (l.length - 1)).all (linkAt ts l)
def walkB (n : Nat) (ts : List (List Int)) (xs : List V) : Bool := pgsB n xs && (decide (1 ≤ xs.length) && (decide (xs.length ≤ 61) && linkedB ts (nums xs)))
def trailB (n : Nat) (ts : List (List Int)) (xs : List V) : Bool := difB n xs && (decide (1 ≤ xs.length) && linkedB ts (nums xs))
def lawLinkB (n : Nat) (ts : List (List Int)) (xs : List V) : Bool := decide (1 ≤ xs.length) && (pgsB n xs && linkedB ts (nums xs))
theorem Net.but {H H' : Hp} {p L : Addr} {as : List Addr} {ts : List (List Int)} (b : But p H H') (nL : L ≠ p) (na : ∀ r ∈ as, r ≠ p) (h : Net H L as ts) : Net H' L as ts :=
  ⟨b _ _ nL h.net, h.rows.mono fun r hr o e => b r o (na r hr) e, h.low, h.high, h.links⟩
/-- items of which a long list may hold some -/
structure Gq (K : PySem.W.Frag) (H : Hp) (x : V) : Prop where
  kn : Kn H x
  dp : ∃ d, Dp K H x d ∧ Sh 2 5 d
theorem gq_all {K : PySem.W.Frag} {H : Hp} : ∀ {xs : List V}, (∀ x ∈ xs, Gq K H x) → ∃ ds, DpAll K H xs ds ∧ ds.length = xs.length ∧ ∀ d ∈ ds, Sh 2 5 d
  | [], _ => ⟨[], .nil, rfl, fun _ h => nomatch h⟩
  | x :: xs, h => by
    obtain ⟨d, hd, sh⟩ := (h x List.mem_cons_self).dp
    obtain ⟨ds, hp, hl, hs⟩ := gq_all fun y hy => h y (List.mem_cons_of_mem _ hy)
    exact ⟨d :: ds, .cons hd hp, by rw [List.length_cons, List.length_cons, hl], fun e he => by
      rcases List.mem_cons.mp he with rfl | he
      · exact sh
      · exact hs e he⟩
theorem gq_int {K : PySem.W.Frag} {H : Hp} {z : Int} (h : z.natAbs < 10 ^ 38) : Gq K H (.int z) := ⟨trivial, _, .int z, (sh_big h).mono (by decide) (by decide)⟩
theorem gq_bl {K : PySem.W.Frag} {H : Hp} (b : Bool) : Gq K H (.bl b) := by
  refine ⟨trivial, _, .bl b, ?_⟩
  cases b <;> exact ⟨by simp only [PyData.showable], by simp only [PyData.hasDict], by simp only [PyData.canLay0], by simp only [PyData.leavesShort], by simp only [PyData.depth]; decide, by simp only [PyData.bulk]; decide⟩
theorem gq_non {K : PySem.W.Frag} {H : Hp} : Gq K H .non :=
  ⟨trivial, _, .non, by simp only [PyData.showable], by simp only [PyData.hasDict], by simp only [PyData.canLay0], by simp only [PyData.leavesShort], by simp only [PyData.depth]; decide, by simp only [PyData.bulk]; decide⟩
theorem gq_str {K : PySem.W.Frag} {H : Hp} {x : PySem.Str} (h : PyData.canLay0 (.str x) = true) (h2 : PyData.leavesShort 40 (.str x) = true) (h3 : x.cps.size ≤ 4) : Gq K H (.str x) :=
  ⟨trivial, _, .str x, by simp only [PyData.showable], by simp only [PyData.hasDict], h, h2, by simp only [PyData.depth]; decide, by simp only [PyData.bulk]; omega⟩
theorem gq_nums {K : PySem.W.Frag} {H : Hp} {a : Addr} {l : List Int} (e : H a = some (.lst (l.map V.int))) (h : ∀ z ∈ l, 0 ≤ z ∧ z ≤ 1000) (hl : l.length ≤ 5) : Gq K H (.ref a) :=
  ⟨.inl ⟨_, e⟩, nD l, dp_nD (.inl (.inl e)), (sh_nD h).mono (by decide) hl⟩
theorem gr_itemsQ {K : PySem.W.Frag} {H : Hp} {a : Addr} {xs : List V} (e : H a = some (.lst xs)) (hl : xs.length ≤ 80) (h : ∀ x ∈ xs, Gq K H x) : Gr K H (.ref a) := by
  obtain ⟨ds, hp, he, hs⟩ := gq_all h
  refine ⟨okv_list e (by omega) fun y hy => (h y hy).kn, .list ds, .inl ⟨.lst (.inl (.inl e)) hp, (sh_list hs).mono (by decide) ?_⟩⟩
  rw [he]
  omega
theorem gr_one {K : PySem.W.Frag} {H : Hp} {a b : Addr} {l : List Int} (e : H a = some (.lst [.ref b])) (eb : H b = some (.lst (l.map V.int))) (h : ∀ z ∈ l, 0 ≤ z ∧ z ≤ 1000) (hl : l.length ≤ 400) : Gr K H (.ref a) := by
  refine ⟨okv_list e (by show 1 ≤ 4000; decide) (fun y hy => by rw [List.mem_singleton.mp hy]; exact .inl ⟨_, eb⟩), .list [nD l], .inl ⟨.lst (.inl (.inl e)) (.cons (dp_nD (.inl (.inl eb))) .nil), ?_⟩⟩
  exact (sh_list (k := 1) (n := 400) (ds := [nD l]) fun d hd => by rw [List.mem_singleton.mp hd]; exact (sh_nD h).mono (by decide) hl).mono (by decide) (by show 1 * (400 + 1) ≤ 500; decide)
theorem nd_le : ∀ {ks ms : List Int}, ks.Nodup → (∀ k ∈ ks, k ∈ ms) → ks.length ≤ ms.length
  | [], _, _, _ => Nat.zero_le _
  | k :: ks, ms, nd, h => by
    obtain ⟨n1, n2⟩ := List.nodup_cons.mp nd
    have hm := h k List.mem_cons_self
    have h1 := nd_le (ms := ms.erase k) n2 fun x hx => (List.mem_erase_of_ne fun e : x = k => n1 (by rw [← e]; exact hx)).mpr (h x (List.mem_cons_of_mem _ hx))
    rw [List.length_erase_of_mem hm] at h1
    have h2 : 0 < ms.length := List.length_pos_of_mem hm
    show ks.length + 1 ≤ ms.length
    omega
theorem dup_of : ∀ {ns : List Int}, ¬ ns.Nodup → ∃ x, x ∈ ns ∧ x ∈ ns.erase x
  | [], h => absurd List.nodup_nil h
  | y :: r, h => by
    by_cases m : y ∈ r
    · exact ⟨y, List.mem_cons_self, by rw [List.erase_cons_head]; exact m⟩
    · have hr : ¬ r.Nodup := fun w => h (List.nodup_cons.mpr ⟨m, w⟩)
      obtain ⟨x, h1, h2⟩ := dup_of hr
      have ne : y ≠ x := fun e => m (by rw [e]; exact h1)
      refine ⟨x, List.mem_cons_of_mem _ h1, ?_⟩
      rw [List.erase_cons_tail (by rw [beq_iff_eq]; exact ne)]
      exact List.mem_cons_of_mem _ h2
theorem once_iff {ns : List Int} {n : Nat} (h : Once ns n) : n = ns.length ↔ ns.Nodup := by
  obtain ⟨ks, nd, hm, rfl⟩ := h
  constructor
  · intro e
    by_cases w : ns.Nodup
    · exact w
    · obtain ⟨x, h1, h2⟩ := dup_of w
      have h3 := nd_le (ms := ns.erase x) nd fun k hk => by
        by_cases e2 : k = x
        · rw [e2]
          exact h2
        · exact (List.mem_erase_of_ne e2).mpr ((hm k).mp hk)
      rw [List.length_erase_of_mem h1] at h3
      have h4 : 0 < ns.length := List.length_pos_of_mem h1
      omega
  · intro w
    have h1 := nd_le nd fun k hk => (hm k).mp hk
    have h2 := nd_le w fun k hk => (hm k).mpr hk
    omega
theorem Net.gr {K : PySem.W.Frag} {H : Hp} {L : Addr} {as : List Addr} {ts : List (List Int)} (h : Net H L as ts) : Gr K H (.ref L) := by
  have h2 := h.high
  refine gr_rows h.net h.rows (by omega) fun t hm => ?_
  obtain ⟨j, hj⟩ := List.mem_iff_getElem?.mp hm
  have h1 := h.links j t hj
  exact ⟨Nat.le_trans (links_len h1) (by omega), fun z hz => by have := h1.1 z hz; omega⟩
theorem Gr.same {K : PySem.W.Frag} {H H' : Hp} {x : V} (s : Same H H') (h : Gr K H x) : Gr K H' x := by
  obtain ⟨d, hd⟩ := h.d0
  refine ⟨okv_same s h.ok, d, ?_⟩
  rcases hd with ⟨h1, z⟩ | ⟨a, rfl, e, rfl⟩
  · exact .inl ⟨dp_same s h1, z⟩
  · exact .inr ⟨a, rfl, s _ _ e, rfl⟩
theorem shw_bools {K : PySem.W.Frag} {H : Hp} {a : Addr} {u v : Bool} (e : H a = some (.lst [.bl u, .bl v])) : Shw K H (.ref a) (bD [u, v]).shown := by
  refine .inl ⟨bD [u, v], dp_bD (.inl (.inl e)), ?_, rfl⟩
  refine (sh_list (k := 0) (n := 0) (ds := [.bool u, .bool v]) fun d hd => ?_).mono (by decide) (by show 2 * 1 ≤ 300000; decide)
  have shd : ∀ b : Bool, Sh 0 0 (.bool b) := fun b => by
    cases b <;> exact ⟨by simp only [PyData.showable], by simp only [PyData.hasDict], by simp only [PyData.canLay0], by simp only [PyData.leavesShort], by simp only [PyData.depth]; decide, by simp only [PyData.bulk]; decide⟩
  rcases List.mem_cons.mp hd with rfl | hd
  · exact shd _
  · rw [List.mem_singleton.mp hd]
    exact shd _
theorem walk_link {n : Nat} {ts : List (List Int)} {xs : List V} (h : lawLinkB n ts xs = false) : walkB n ts xs = false ∧ trailB n ts xs = false := by
  unfold lawLinkB at h
  unfold walkB trailB difB
  cases e1 : pgsB n xs with
  | false => exact ⟨by rw [Bool.false_and], by rw [Bool.false_and, Bool.false_and]⟩
  | true =>
    rw [e1, Bool.true_and] at h
    cases e2 : decide (1 ≤ xs.length) with
    | false => exact ⟨by rw [Bool.false_and, Bool.and_false], by rw [Bool.false_and, Bool.and_false]⟩
    | true =>
      rw [e2, Bool.true_and] at h
      exact ⟨by rw [h, Bool.and_false, Bool.and_false, Bool.and_false], by rw [h, Bool.and_false, Bool.and_false]⟩
theorem net_two {H : Hp} {L a b : Addr} (e : H L = some (.lst [.ref a, .ref b])) (ea : H a = some (.lst [.int 1])) (eb : H b = some (.lst [.int 0])) : Net H L [a, b] [[1], [0]] := by
  refine ⟨e, .cons ea (.cons eb .nil), by show 1 ≤ 2; decide, by show 2 ≤ 12; decide, fun j t h => ?_⟩
  match j, h with
  | 0, h =>
    cases (Option.some.inj h)
    exact ⟨fun z hz => by rw [List.mem_singleton.mp hz]; exact ⟨by decide, by show (1 : Int) < 2; decide, by decide⟩, List.pairwise_singleton _ _⟩
  | 1, h =>
    cases (Option.some.inj h)
    exact ⟨fun z hz => by rw [List.mem_singleton.mp hz]; exact ⟨by decide, by show (0 : Int) < 2; decide, by decide⟩, List.pairwise_singleton _ _⟩
  | j + 2, h => cases h
theorem net_one {H : Hp} {L a : Addr} (e : H L = some (.lst [.ref a])) (ea : H a = some (.lst [])) : Net H L [a] [[]] := by
  refine ⟨e, .cons ea .nil, by show 1 ≤ 1; decide, by show 1 ≤ 12; decide, fun j t h => ?_⟩
  match j, h with
  | 0, h =>
    cases (Option.some.inj h)
    exact ⟨(fun z hz => nomatch hz), List.Pairwise.nil⟩
  | j + 1, h => cases h
theorem two_a : walkB 2 [[1], [0]] ((List.replicate (Int.toNat 30) [V.int 0, V.int 1]).flatten ++ [V.int 0]) = true := by decide +kernel
theorem two_b : walkB 2 [[1], [0]] (List.replicate (Int.toNat 31) [V.int 0, V.int 1]).flatten = false := by decide +kernel
theorem two_c : trailB 2 [[1], [0]] [V.int 0, V.int 1] = true := by decide +kernel
theorem two_d : walkB 1 [[]] [V.int 0] = true := by decide +kernel
end Vf

set_option maxRecDepth 100000
set_option maxHeartbeats 4000000
namespace Vf
open PySem PySem.Spec PyProof.Rows L2
def topS (i : Nat) : Stmt := PySem.Challenge.pw_breadcrumbs_k02_walks_and_trails_of_site.main.body.getD i (.Pass ⟨0, 0, 0, 0⟩)
abbrev s__law_draw : Stmt := topS 19
abbrev N__law_draw : List PySem.Str := ["_law_source_here", "_law_count", "_law_digit", "_law_mixed"]
theorem sc__law_draw : FnScope N__law_draw ["_law_source_here", "_law_count"] (defScope s__law_draw) := ⟨rfl, rfl, rfl, by decide +kernel, rfl, by decide +kernel, by decide +kernel⟩
abbrev s__law_net : Stmt := topS 20
abbrev N__law_net : List PySem.Str := ["_law_source_here", "_law_most", "_law_many", "_law_style", "_law_found", "_law_spot", "_law_row", "_law_other", "_law_picks"]
theorem sc__law_net : FnScope N__law_net ["_law_source_here", "_law_most"] (defScope s__law_net) := ⟨rfl, rfl, rfl, by decide +kernel, rfl, by decide +kernel, by decide +kernel⟩
abbrev s__law_stroll : Stmt := topS 21
abbrev N__law_stroll : List PySem.Str := ["_law_source_here", "_law_net_here", "_law_most", "_law_found", "_law_step", "_law_row"]
theorem sc__law_stroll : FnScope N__law_stroll ["_law_source_here", "_law_net_here", "_law_most"] (defScope s__law_stroll) := ⟨rfl, rfl, rfl, by decide +kernel, rfl, by decide +kernel, by decide +kernel⟩
abbrev s__law_trail : Stmt := topS 22
abbrev N__law_trail : List PySem.Str := ["_law_row", "_law_found", "_law_spot"]
theorem sc__law_trail : FnScope N__law_trail ["_law_row"] (defScope s__law_trail) := ⟨rfl, rfl, rfl, by decide +kernel, rfl, by decide +kernel, by decide +kernel⟩
abbrev s_is_int : Stmt := topS 4
abbrev N_is_int : List PySem.Str := ["value"]
theorem sc_is_int : FnScope N_is_int ["value"] (defScope s_is_int) := ⟨rfl, rfl, rfl, by decide +kernel, rfl, by decide +kernel, by decide +kernel⟩
abbrev s_is_between : Stmt := topS 5
abbrev N_is_between : List PySem.Str := ["value", "low", "high"]
theorem sc_is_between : FnScope N_is_between ["value", "low", "high"] (defScope s_is_between) := ⟨rfl, rfl, rfl, by decide +kernel, rfl, by decide +kernel, by decide +kernel⟩
abbrev s_are_pages : Stmt := topS 6
abbrev N_are_pages : List PySem.Str := ["value", "many", "item"]
theorem sc_are_pages : FnScope N_are_pages ["value", "many"] (defScope s_are_pages) := ⟨rfl, rfl, rfl, by decide +kernel, rfl, by decide +kernel, by decide +kernel⟩
abbrev s__are_links : Stmt := topS 15
abbrev N__are_links : List PySem.Str := ["value", "page", "many"]
theorem sc__are_links : FnScope N__are_links ["value", "page", "many"] (defScope s__are_links) := ⟨rfl, rfl, rfl, by decide +kernel, rfl, by decide +kernel, by decide +kernel⟩
abbrev s_is_site : Stmt := topS 11
abbrev N_is_site : List PySem.Str := ["value", "page", "links"]
theorem sc_is_site : FnScope N_is_site ["value"] (defScope s_is_site) := ⟨rfl, rfl, rfl, by decide +kernel, rfl, by decide +kernel, by decide +kernel⟩
abbrev s_check_site : Stmt := topS 14
abbrev N_check_site : List PySem.Str := ["site"]
theorem sc_check_site : FnScope N_check_site ["site"] (defScope s_check_site) := ⟨rfl, rfl, rfl, by decide +kernel, rfl, by decide +kernel, by decide +kernel⟩
abbrev s__is_linked : Stmt := topS 16
abbrev N__is_linked : List PySem.Str := ["site", "pages", "page", "after"]
theorem sc__is_linked : FnScope N__is_linked ["site", "pages"] (defScope s__is_linked) := ⟨rfl, rfl, rfl, by decide +kernel, rfl, by decide +kernel, by decide +kernel⟩
abbrev s_is_walk : Stmt := topS 12
abbrev N_is_walk : List PySem.Str := ["site", "value"]
theorem sc_is_walk : FnScope N_is_walk ["site", "value"] (defScope s_is_walk) := ⟨rfl, rfl, rfl, by decide +kernel, rfl, by decide +kernel, by decide +kernel⟩
abbrev s_are_different_pages : Stmt := topS 7
abbrev N_are_different_pages : List PySem.Str := ["value", "many"]
theorem sc_are_different_pages : FnScope N_are_different_pages ["value", "many"] (defScope s_are_different_pages) := ⟨rfl, rfl, rfl, by decide +kernel, rfl, by decide +kernel, by decide +kernel⟩
abbrev s_is_trail_of : Stmt := topS 13
abbrev N_is_trail_of : List PySem.Str := ["site", "value"]
theorem sc_is_trail_of : FnScope N_is_trail_of ["site", "value"] (defScope s_is_trail_of) := ⟨rfl, rfl, rfl, by decide +kernel, rfl, by decide +kernel, by decide +kernel⟩
abbrev s__law_changed : Stmt := topS 24
abbrev N__law_changed : List PySem.Str := ["_law_source_here", "_law_net_here", "_law_row", "_law_at", "_law_many", "_law_odd", "_law_one", "_law_some"]
theorem sc__law_changed : FnScope N__law_changed ["_law_source_here", "_law_net_here", "_law_row"] (defScope s__law_changed) := ⟨rfl, rfl, rfl, by decide +kernel, rfl, by decide +kernel, by decide +kernel⟩
abbrev s__law_linked : Stmt := topS 23
abbrev N__law_linked : List PySem.Str := ["_law_net_here", "_law_value", "_law_spot", "_law_other"]
theorem sc__law_linked : FnScope N__law_linked ["_law_net_here", "_law_value"] (defScope s__law_linked) := ⟨rfl, rfl, rfl, by decide +kernel, rfl, by decide +kernel, by decide +kernel⟩
abbrev s__law_holds : Stmt := topS 25
abbrev N__law_holds : List PySem.Str := ["_law_source_here", "_law_most", "_law_net_here", "_law_step", "_law_row", "_law_bare", "_law_value", "_law_before", "_law_linked_here", "_law_told", "_law_alone", "_law_two"]
theorem sc__law_holds : FnScope N__law_holds ["_law_source_here", "_law_most"] (defScope s__law_holds) := ⟨rfl, rfl, rfl, by decide +kernel, rfl, by decide +kernel, by decide +kernel⟩
abbrev s__law_source : Stmt := topS 18
abbrev N__law_source : List PySem.Str := ["_law_cell", "_law_k"]
theorem sc__law_source : FnScope N__law_source ["_law_cell", "_law_k"] (defScope s__law_source) := ⟨rfl, rfl, rfl, by decide +kernel, rfl, by decide +kernel, by decide +kernel⟩
abbrev s_law : Stmt := topS 26
abbrev N_law : List PySem.Str := ["_law_script", "_law_k", "_law_cell"]
theorem sc_law : FnScope N_law ["_law_script"] (defScope s_law) := ⟨rfl, rfl, rfl, by decide +kernel, rfl, by decide +kernel, by decide +kernel⟩
structure Top (K : PySem.W.Frag) (mg : PySem.Str → Option Value) where
  a__law_draw : Addr
  d__law_draw : FuncData
  F__law_draw : Fun K "_law_draw" "_law_draw" s__law_draw a__law_draw d__law_draw
  g__law_draw : mg "_law_draw" = some (.ref a__law_draw)
  b__law_draw : Binds K d__law_draw ["_law_source_here", "_law_count"] []
  a__law_net : Addr
  d__law_net : FuncData
  F__law_net : Fun K "_law_net" "_law_net" s__law_net a__law_net d__law_net
  g__law_net : mg "_law_net" = some (.ref a__law_net)
  b__law_net : Binds K d__law_net ["_law_source_here", "_law_most"] []
  a__law_stroll : Addr
  d__law_stroll : FuncData
  F__law_stroll : Fun K "_law_stroll" "_law_stroll" s__law_stroll a__law_stroll d__law_stroll
  g__law_stroll : mg "_law_stroll" = some (.ref a__law_stroll)
  b__law_stroll : Binds K d__law_stroll ["_law_source_here", "_law_net_here", "_law_most"] []
  a__law_trail : Addr
  d__law_trail : FuncData
  F__law_trail : Fun K "_law_trail" "_law_trail" s__law_trail a__law_trail d__law_trail
  g__law_trail : mg "_law_trail" = some (.ref a__law_trail)
  b__law_trail : Binds K d__law_trail ["_law_row"] []
  a_is_int : Addr
  d_is_int : FuncData
  F_is_int : Fun K "is_int" "is_int" s_is_int a_is_int d_is_int
  g_is_int : mg "is_int" = some (.ref a_is_int)
  b_is_int : Binds K d_is_int ["value"] []
  a_is_between : Addr
  d_is_between : FuncData
  F_is_between : Fun K "is_between" "is_between" s_is_between a_is_between d_is_between
  g_is_between : mg "is_between" = some (.ref a_is_between)
  b_is_between : Binds K d_is_between ["value", "low", "high"] []
  a_are_pages : Addr
  d_are_pages : FuncData
  F_are_pages : Fun K "are_pages" "are_pages" s_are_pages a_are_pages d_are_pages
  g_are_pages : mg "are_pages" = some (.ref a_are_pages)
  b_are_pages : Binds K d_are_pages ["value", "many"] []
  a__are_links : Addr
  d__are_links : FuncData
  F__are_links : Fun K "_are_links" "_are_links" s__are_links a__are_links d__are_links
  g__are_links : mg "_are_links" = some (.ref a__are_links)
  b__are_links : Binds K d__are_links ["value", "page", "many"] []
  a_is_site : Addr
  d_is_site : FuncData
  F_is_site : Fun K "is_site" "is_site" s_is_site a_is_site d_is_site
  g_is_site : mg "is_site" = some (.ref a_is_site)
  b_is_site : Binds K d_is_site ["value"] []
  a_check_site : Addr
  d_check_site : FuncData
  F_check_site : Fun K "check_site" "check_site" s_check_site a_check_site d_check_site
  g_check_site : mg "check_site" = some (.ref a_check_site)
  b_check_site : Binds K d_check_site ["site"] []
  a__is_linked : Addr
  d__is_linked : FuncData
  F__is_linked : Fun K "_is_linked" "_is_linked" s__is_linked a__is_linked d__is_linked
  g__is_linked : mg "_is_linked" = some (.ref a__is_linked)
  b__is_linked : Binds K d__is_linked ["site", "pages"] []
  a_is_walk : Addr
  d_is_walk : FuncData
  F_is_walk : Fun K "is_walk" "is_walk" s_is_walk a_is_walk d_is_walk
  g_is_walk : mg "is_walk" = some (.ref a_is_walk)
  b_is_walk : Binds K d_is_walk ["site", "value"] []
  a_are_different_pages : Addr
  d_are_different_pages : FuncData
  F_are_different_pages : Fun K "are_different_pages" "are_different_pages" s_are_different_pages a_are_different_pages d_are_different_pages
  g_are_different_pages : mg "are_different_pages" = some (.ref a_are_different_pages)
  b_are_different_pages : Binds K d_are_different_pages ["value", "many"] []
  a_is_trail_of : Addr
  d_is_trail_of : FuncData
  F_is_trail_of : Fun K "is_trail_of" "is_trail_of" s_is_trail_of a_is_trail_of d_is_trail_of
  g_is_trail_of : mg "is_trail_of" = some (.ref a_is_trail_of)
  b_is_trail_of : Binds K d_is_trail_of ["site", "value"] []
  a__law_changed : Addr
  d__law_changed : FuncData
  F__law_changed : Fun K "_law_changed" "_law_changed" s__law_changed a__law_changed d__law_changed
  g__law_changed : mg "_law_changed" = some (.ref a__law_changed)
  b__law_changed : Binds K d__law_changed ["_law_source_here", "_law_net_here", "_law_row"] []
  a__law_linked : Addr
  d__law_linked : FuncData
  F__law_linked : Fun K "_law_linked" "_law_linked" s__law_linked a__law_linked d__law_linked
  g__law_linked : mg "_law_linked" = some (.ref a__law_linked)
  b__law_linked : Binds K d__law_linked ["_law_net_here", "_law_value"] []
  a__law_holds : Addr
  d__law_holds : FuncData
  F__law_holds : Fun K "_law_holds" "_law_holds" s__law_holds a__law_holds d__law_holds
  g__law_holds : mg "_law_holds" = some (.ref a__law_holds)
  b__law_holds : Binds K d__law_holds ["_law_source_here", "_law_most"] []
  a__law_source : Addr
  d__law_source : FuncData
  F__law_source : Fun K "_law_source" "_law_source" s__law_source a__law_source d__law_source
  g__law_source : mg "_law_source" = some (.ref a__law_source)
  b__law_source : Binds K d__law_source ["_law_cell", "_law_k"] []
  a_law : Addr
  d_law : FuncData
  F_law : Fun K "law" "law" s_law a_law d_law
  g_law : mg "law" = some (.ref a_law)
  b_law : Binds K d_law ["_law_script"] []
  t_MOST_PAGES : Tok
  g_MOST_PAGES : mg "MOST_PAGES" = some (.int (12) t_MOST_PAGES)
  t_MOST_STEPS : Tok
  g_MOST_STEPS : mg "MOST_STEPS" = some (.int (60) t_MOST_STEPS)
  n_range : mg "range" = none
  n_int : mg "int" = none
  n_min : mg "min" = none
  n_abs : mg "abs" = none
  n_len : mg "len" = none
  n_isinstance : mg "isinstance" = none
  n_bool : mg "bool" = none
  n_list : mg "list" = none
  n_all : mg "all" = none
  n_sorted : mg "sorted" = none
  n_set : mg "set" = none
  n_enumerate : mg "enumerate" = none
  n_zip : mg "zip" = none
  n_tuple : mg "tuple" = none
  n_repr : mg "repr" = none
  n_max : mg "max" = none
section
variable {P : Program} {w : World} {K : PySem.W.Frag} {mg : PySem.Str → Option Value} {base : Heap}
def sp__law_draw (K : PySem.W.Frag) : Sp := fun vs H Q _ => ∃ (p : Addr) (m : Int) (n : Nat), vs = [.ref p, .int m] ∧ Pl H p n ∧ n ≤ 1000000 ∧ 1 ≤ m ∧ m ≤ 1000000 ∧
  ∀ H' (r : Int), But p H H' → Pl H' p (n + 1) → 0 ≤ r → r < m → Q (.int r) H'
theorem ok__law_draw (T : Top K mg) :
    FnOk P w K mg base CX0 1 T.a__law_draw T.d__law_draw ["_law_source_here", "_law_count"] (sp__law_draw K) := by
  refine T.F__law_draw.ok sc__law_draw (fun vs H Q E h => ?_) (fun cdv A outer s H vs Q E hr h => ?_)
  · obtain ⟨p, m, n, rfl, _⟩ := h
    rfl
  · obtain ⟨p, m, n, rfl, hP, hn, hm, hm2, q⟩ := h
    have nd := sc__law_draw.nd
    have hu := hu_of hr
    have hU := units_of hr
    have hu64 := u64_of hr
    refine ⟨_, (pss_cons (ps_if (pt_cmpR op_gt (pe_ix ix_list (pv 0) pe_int (fun _ _ => rfl)) pe_int (nomark _)) (pss_cons (ps_set (i := 2) nd rfl (Or.inl rfl) (pe_op op_mod (pe_ix ix_list (pv 0) pe_int (fun _ _ => rfl)) (pv 1)))
      (pss_cons (ps_asg (pe_op op_fdiv (pe_ix ix_list (pv 0) pe_int (fun _ _ => rfl)) (pv 1)) (pg_sub (pv 0) pe_int set_list))
      (pss_one (ps_ret (pv 2))))) pss_nil)
      (pss_cons (ps_asg (pe_op op_add (pe_ix ix_list (pv 0) pe_int (fun _ _ => rfl)) pe_int) (pg_sub (pv 0) pe_int set_list))
      (pss_cons (ps_set (i := 3) nd rfl (Or.inl rfl) (pe_op op_mod (pe_op op_powG (pe_op op_add (pe_ix ix_list (pv 0) pe_int (fun _ _ => rfl)) (pe_op op_mul pe_int (pe_ix ix_list (pv 0) pe_int (fun _ _ => rfl)))) pe_int) (pe_op op_add (pe_op op_pow pe_int pe_int) pe_int)))
      (pss_cons (ps_set (i := 3) nd rfl (Or.inl rfl) (pe_op op_mod (pe_op op_powG (pe_op op_add (pv 3) (pe_op op_mul pe_int (pe_ix ix_list (pv 0) pe_int (fun _ _ => rfl)))) pe_int) (pe_op op_add (pe_op op_pow pe_int pe_int) pe_int)))
      (pss_one (ps_ret (pe_op op_mod (pe_op op_fdiv (pv 3) pe_int) (pv 1)))))))), ?_⟩
    obtain ⟨a, b, c, ep, ha, hb, hb2, hc, hcn⟩ := hP
    rw [e2_160] at hb2
    have S0 : SqL K H p [.int a, .int b, .int c] := .inl (.inl ep)
    refine ⟨.ref p, rfl, p, _, 0, .int a, rfl, rfl, S0, atI_nat (j := 0) rfl, _, _, rfl, rfl, _, rfl, ite2 (fun d => ?_) (fun d => ?_)⟩
    · refine ⟨.ref p, rfl, p, _, 0, .int a, rfl, rfl, S0, atI_nat (j := 0) rfl, _, rfl, _, _, rfl, rfl, (by show 0 < m; omega), ?_⟩
      refine ⟨.ref p, rfl, p, _, 0, .int a, rfl, rfl, S0, atI_nat (j := 0) rfl, _, rfl, _, _, rfl, rfl, ⟨by omega, by omega⟩, ?_⟩
      refine ⟨.ref p, rfl, p, _, 0, 0, rfl, rfl, ep, rfl, _, rfl, ?_⟩
      exact q _ _ But.upd ⟨_, _, _, upd_same, Int.ediv_nonneg ha (by omega), hb, by rw [e2_160]; exact hb2, hc, by omega⟩ (Int.emod_nonneg _ (by omega)) (Int.emod_lt_of_pos _ (by omega))
    · refine ⟨.ref p, rfl, p, _, 2, .int c, rfl, rfl, S0, atI_nat (j := 2) rfl, _, _, rfl, rfl, ?_⟩
      refine ⟨.ref p, rfl, p, _, 2, 2, rfl, rfl, ep, rfl, ?_⟩
      have e1 : upd H p (.lst [.int a, .int b, .int (c + 1)]) p = some (.lst [.int a, .int b, .int (c + 1)]) := upd_same
      have S1 : SqL K (upd H p (.lst [.int a, .int b, .int (c + 1)])) p [.int a, .int b, .int (c + 1)] := .inl (.inl e1)
      refine ⟨.ref p, rfl, p, _, 1, .int b, rfl, rfl, S1, atI_nat (j := 1) rfl, .ref p, rfl, p, _, 2, .int (c + 1), rfl, rfl, S1, atI_nat (j := 2) rfl, _, _, rfl, rfl, .inl ⟨by decide, by decide⟩, _, _, rfl, rfl, _, _, rfl, rfl, cube_of (by omega) (by omega), ?_⟩
      refine ⟨_, _, rfl, rfl, pow_ok 39 (by decide) (by decide), _, _, rfl, rfl, _, _, rfl, rfl, (by show (0 : Int) < _; rw [pw39]; decide), ?_⟩
      rw [pw39]
      have m0 := Int.emod_nonneg ((b + 970051 * (c + 1)) ^ (3 : Int).toNat) (show (1000000000000000000000000000000000000000 + 3 : Int) ≠ 0 by decide)
      have m1 := Int.emod_lt_of_pos ((b + 970051 * (c + 1)) ^ (3 : Int).toNat) (show (0 : Int) < 1000000000000000000000000000000000000000 + 3 by decide)
      generalize (b + 970051 * (c + 1)) ^ (3 : Int).toNat % (1000000000000000000000000000000000000000 + 3) = z at m0 m1 ⊢
      refine ⟨_, rfl, .ref p, rfl, p, _, 2, .int (c + 1), rfl, rfl, S1, atI_nat (j := 2) rfl, _, _, rfl, rfl, .inl ⟨by decide, by decide⟩, _, _, rfl, rfl, _, _, rfl, rfl, cube_of (by omega) (by omega), ?_⟩
      refine ⟨_, _, rfl, rfl, pow_ok 36 (by decide) (by decide), _, _, rfl, rfl, _, _, rfl, rfl, (by show (0 : Int) < _; rw [pw36]; decide), ?_⟩
      refine ⟨_, rfl, _, _, rfl, rfl, ⟨by decide, by decide⟩, _, rfl, _, _, rfl, rfl, (by show 0 < m; omega), ?_⟩
      exact q _ _ But.upd ⟨a, b, c + 1, e1, ha, hb, by rw [e2_160]; exact hb2, by omega, by omega⟩ (Int.emod_nonneg _ (by omega)) (Int.emod_lt_of_pos _ (by omega))
def sp__law_net (K : PySem.W.Frag) : Sp := fun vs H Q _ => ∃ (p : Addr) (most : Int) (n : Nat), vs = [.ref p, .int most] ∧ Pl H p n ∧ n ≤ 900000 ∧ 1 ≤ most ∧ most ≤ 12 ∧
  ∀ H' (L : Addr) (as : List Addr) (ts : List (List Int)), But p H H' → Pl H' p (n + 400) → H L = none → H' L = some (.lst (as.map V.ref)) → Rows H' as ts → as.Nodup →
    (∀ r ∈ as, H r = none ∧ r ≠ L ∧ r ≠ p) → 1 ≤ as.length → as.length ≤ 12 → (∀ j t, ts[j]? = some t → LinksOf as.length j t) → Q (.ref L) H'
theorem ok__law_net (T : Top K mg)
    (G__law_draw : FnOk P w K mg base CX0 1 T.a__law_draw T.d__law_draw ["_law_source_here", "_law_count"] (sp__law_draw K)) :
    FnOk P w K mg base CX0 2 T.a__law_net T.d__law_net ["_law_source_here", "_law_most"] (sp__law_net K) := by
  refine T.F__law_net.ok sc__law_net (fun vs H Q E h => ?_) (fun cdv A outer s H vs Q E hr h => ?_)
  · obtain ⟨p, most, n, rfl, _⟩ := h
    rfl
  · obtain ⟨p, most, n, rfl, hP, hn, m1, m2, q⟩ := h
    have nd := sc__law_net.nd
    have hu := hu_of hr
    have hU := units_of hr
    have hu64 := u64_of hr
    refine ⟨_, (pss_cons (ps_set (i := 2) nd rfl (Or.inl rfl) (pe_ix ix_list (pe_lst (pa_cons (pe_op op_add pe_int (pe_call G__law_draw (hr.mono (by decide)) (by rfl) T.g__law_draw T.F__law_draw.kp T.b__law_draw .nil pass0 (pa_cons (pv 0) (pa_cons (pv 1) pa_nil)))) (pa_cons (pe_op op_add pe_int (pe_call G__law_draw (hr.mono (by decide)) (by rfl) T.g__law_draw T.F__law_draw.kp T.b__law_draw .nil pass0 (pa_cons (pv 0) (pa_cons (pe_callB (call_min2 rfl) (by rfl) T.n_min (by decide +kernel) (pa_cons (pv 1) (pa_cons pe_int pa_nil))) pa_nil)))) (pa_cons (pv 1) pa_nil)))) (pe_call G__law_draw (hr.mono (by decide)) (by rfl) T.g__law_draw T.F__law_draw.kp T.b__law_draw .nil pass0 (pa_cons (pv 0) (pa_cons pe_int pa_nil))) (fun _ _ => rfl)))
      (pss_cons (ps_par (i := 3) (j := 4) rfl nd rfl rfl (by decide) rfl rfl (pa_cons (pe_call G__law_draw (hr.mono (by decide)) (by rfl) T.g__law_draw T.F__law_draw.kp T.b__law_draw .nil pass0 (pa_cons (pv 0) (pa_cons pe_int pa_nil))) (pa_cons (pe_lst pa_nil) pa_nil)) (by rfl))
      (pss_cons (ps_for PassesOwn.never rfl (pi_range1 (by rfl) T.n_range (pa_cons (pv 2) pa_nil)) (pg_name (i := 5) nd rfl (Or.inl rfl)) (pss_cons (ps_set (i := 6) nd rfl (Or.inl rfl) (pe_lst pa_nil))
      (pss_cons (ps_for PassesOwn.never rfl (pi_range1 (by rfl) T.n_range (pa_cons (pv 2) pa_nil)) (pg_name (i := 7) nd rfl (Or.inl rfl)) (pss_cons (ps_set (i := 8) nd rfl (Or.inl rfl) (pe_lst (pa_cons pe_int (pa_cons (pe_callTy call_int1 (by rfl) T.n_int (by decide +kernel) (pa_cons (pe_cmpR op_eq (pv 7) (pe_op op_mod (pe_op op_add (pv 5) pe_int) (pv 2)) (nomark _)) pa_nil)) (pa_cons (pe_callTy call_int1 (by rfl) T.n_int (by decide +kernel) (pa_cons (pe_cmpR op_eq (pe_callB call_abs (by rfl) T.n_abs (by decide +kernel) (pa_cons (pe_op op_sub (pv 5) (pv 7)) pa_nil)) pe_int (nomark _)) pa_nil)) (pa_cons (pe_call G__law_draw (hr.mono (by decide)) (by rfl) T.g__law_draw T.F__law_draw.kp T.b__law_draw .nil pass0 (pa_cons (pv 0) (pa_cons pe_int pa_nil))) pa_nil))))))
      (pss_cons (ps_expr (pe_bm PySem.F.plainAttrs_list PySem.F.slot_list_append PySem.F.type_list_append mt_append (pv 8) (pa_cons (pe_callTy call_int1 (by rfl) T.n_int (by decide +kernel) (pa_cons (pe_cmpR op_eq (pe_call G__law_draw (hr.mono (by decide)) (by rfl) T.g__law_draw T.F__law_draw.kp T.b__law_draw .nil pass0 (pa_cons (pv 0) (pa_cons pe_int pa_nil))) pe_int (nomark _)) pa_nil)) pa_nil)))
      (pss_one (ps_if ((pw_and (pt_cmpR op_ne (pv 7) (pv 5) (nomark _)) (pw_and1 (pt_cmpR op_eq (pe_ix ix_list (pv 8) (pv 3) (fun _ _ => rfl)) pe_int (nomark _))))).pt (pss_one (ps_expr (pe_bm PySem.F.plainAttrs_list PySem.F.slot_list_append PySem.F.type_list_append mt_append (pv 6) (pa_cons (pv 7) pa_nil)))) pss_nil)))))
      (pss_one (ps_expr (pe_bm PySem.F.plainAttrs_list PySem.F.slot_list_append PySem.F.type_list_append mt_append (pv 4) (pa_cons (pv 6) pa_nil)))))))
      (pss_one (ps_ret (pv 4)))))), ?_⟩
    -- many
    have mm1 : 1 ≤ (if (5 : Int) < most then 5 else most) := by split <;> omega
    have mm2 : (if (5 : Int) < most then 5 else most) ≤ 12 := by split <;> omega
    refine ⟨.ref p, rfl, _, rfl, p, most, n, rfl, hP, by omega, by omega, by omega, fun H1 r1 b1 P1 l1 u1 => ⟨_, _, rfl, rfl, .ref p, rfl, _, rfl, _, _, rfl, p, _, _, rfl, P1, by omega, mm1, by omega, fun H2 r2 b2 P2 l2 u2 => ⟨_, _, rfl, rfl, _, rfl, (by show 3 ≤ sizeLine; decide), fun L hL => ?_⟩⟩⟩
    have hLp : L ≠ p := fun e => by
      obtain ⟨o, eo⟩ := P2.at
      rw [e, eo] at hL
      cases hL
    have P3 := P2.same (same_new (o := .lst [V.int (1 + r1), V.int (1 + r2), V.int most]) hL)
    refine ⟨.ref p, rfl, p, 3, _, rfl, P3, by omega, by decide, by decide, fun H4 r4 b4 P4 l4 u4 => ?_⟩
    have e4 : H4 L = some (.lst [V.int (1 + r1), V.int (1 + r2), V.int most]) := b4 _ _ hLp upd_same
    obtain ⟨v, av, mv⟩ := at_ex (xs := [V.int (1 + r1), V.int (1 + r2), V.int most]) l4 (by show r4 < 3; exact u4)
    obtain ⟨M, rfl, M1, M2⟩ : ∃ M : Nat, v = .int (M : Int) ∧ 1 ≤ M ∧ M ≤ 12 := by
      have key : ∀ k : Int, 1 ≤ k → k ≤ 12 → ∃ M : Nat, V.int k = .int (M : Int) ∧ 1 ≤ M ∧ M ≤ 12 := fun k h1 h2 => by
        obtain ⟨M, rfl⟩ := Int.eq_ofNat_of_zero_le (show 0 ≤ k by omega)
        exact ⟨M, rfl, by omega, by omega⟩
      rcases List.mem_cons.mp mv with e | mv
      · rw [e]
        exact key _ (by omega) (by omega)
      rcases List.mem_cons.mp mv with e | mv
      · rw [e]
        exact key _ (by omega) (by omega)
      rcases List.mem_cons.mp mv with e | mv
      · rw [e]
        exact key _ m1 m2
      · cases mv
    refine ⟨L, _, _, _, rfl, rfl, .inl (.inl e4), av, .ref p, rfl, p, 5, _, rfl, P4, by omega, by decide, by decide, fun H5 style b5 P5 st0 st1 => ⟨Nat.zero_le _, fun F hF => ⟨_, _, rfl, ?_⟩⟩⟩
    have B5 : But p H H5 := (((b1.trans b2).trans (.of_same (same_new hL))).trans b4).trans b5
    have nFp : F ≠ p := fun e => by
      obtain ⟨o, eo⟩ := P5.at
      rw [e, eo] at hF
      cases hF
    have hF0 : H F = none := B5.free nFp hF
    have BF : But p H (upd H5 F (.lst [])) := B5.new hF0
    have PF : Pl (upd H5 F (.lst [])) p (n + 10) := (P5.same (same_new hF)).mono (by omega)
    have eF : upd H5 F (.lst []) F = some (.lst (([] : List Addr).map V.ref)) := upd_same
    generalize upd H5 F (.lst []) = H6 at BF PF eF ⊢
    clear e4 av mv B5 b1 b2 b4 b5 P1 P2 P3 P4 P5 hF hL hLp
    refine ⟨_, rfl, (M : Int), rfl, by omega, by omega, for_range (n := M) (fun i σ H2 => ∃ y5 y6 y7 y8, ∃ (as : List Addr) (ts : List (List Int)), σ = [some (.ref p), some (.int most), some (.int (M : Int)), some (.int style), some (.ref F), y5, y6, y7, y8] ∧ But p H H2 ∧ Pl H2 p (n + 10 + 24 * i) ∧
      H2 F = some (.lst (as.map V.ref)) ∧ Rows H2 as ts ∧ as.length = i ∧ as.Nodup ∧ (∀ r ∈ as, H r = none ∧ r ≠ F ∧ r ≠ p) ∧ ∀ j t, ts[j]? = some t → LinksOf M j t) ⟨_, _, _, _, [], [], rfl, BF, PF, eF, .nil, rfl, List.nodup_nil, (fun _ h => nomatch h), fun j t h => by rw [List.getElem?_nil] at h; cases h⟩ (fun i σ H2 hi hW => ?_) (fun σ H2 hW => ?_)⟩
    case refine_2 =>
      obtain ⟨y5, y6, y7, y8, as, ts, rfl, B, P, e, R, hl, nd, fr, lk⟩ := hW
      exact ⟨_, rfl, q H2 F as ts B (P.mono (by omega)) hF0 e R nd fr (by omega) (by omega) (by rw [hl]; exact lk)⟩
    obtain ⟨y5, y6, y7, y8, as, ts, rfl, B2, P2, e2, R2, hlen, ndp, fr, lk⟩ := hW
    refine ⟨Nat.zero_le _, fun R hR => ?_⟩
    have nRp : R ≠ p := fun e => by
      obtain ⟨o, eo⟩ := P2.at
      rw [e, eo] at hR
      cases hR
    have nRF : R ≠ F := fun e => by
      rw [e, e2] at hR
      cases hR
    have hR0 : H R = none := B2.free nRp hR
    have nRa : R ∉ as := fun m => by
      obtain ⟨t, _, e⟩ := R2.mem m
      rw [hR] at e
      cases e
    have sR := same_new (o := .lst []) hR
    have B3 : But p H (upd H2 R (.lst [])) := B2.new hR0
    have P3 : Pl (upd H2 R (.lst [])) p (n + 10 + 24 * i + 2 * 0) := P2.same sR
    have e3 := sR _ _ e2
    have R3 : Rows (upd H2 R (.lst [])) as ts := R2.same sR
    have eR : upd H2 R (.lst []) R = some (.lst (([] : List Int).map V.int)) := upd_same
    generalize upd H2 R (.lst []) = H3 at B3 P3 e3 R3 eR ⊢
    clear sR B2 P2 e2 R2 hR
    refine ⟨_, rfl, (M : Int), rfl, by omega, by omega, for_range (n := M) (fun o σ H4 => ∃ y7 y8, ∃ t : List Int, σ = [some (.ref p), some (.int most), some (.int (M : Int)), some (.int style), some (.ref F), some (.int (0 + i)), some (.ref R), y7, y8] ∧ But p H H4 ∧ Pl H4 p (n + 10 + 24 * i + 2 * o) ∧
      H4 F = some (.lst (as.map V.ref)) ∧ Rows H4 as ts ∧ H4 R = some (.lst (t.map V.int)) ∧ t.length ≤ o ∧ (∀ z ∈ t, 0 ≤ z ∧ z < (o : Int) ∧ z ≠ (i : Int)) ∧ t.Pairwise (· < ·)) ⟨_, _, [], rfl, B3, P3, e3, R3, eR, Nat.le_refl 0, (fun _ h => nomatch h), .nil⟩ (fun o σ H4 ho hW => ?_) (fun σ H4 hW => ?_)⟩
    case refine_2 =>
      obtain ⟨y7, y8, t, rfl, B4, P4, e4, R4, eR4, tl, tz, tp⟩ := hW
      refine ⟨.ref F, rfl, .inl ⟨rfl, _, .inl (.inl e4)⟩, _, rfl, F, _, _, rfl, rfl, e4, ?_, ?_⟩
      · rw [List.length_map]
        exact Nat.lt_of_le_of_lt (show as.length ≤ 12 by omega) (by decide)
      have kp : ∀ b o, b ≠ F → H4 b = some o → upd H4 F (.lst (as.map V.ref ++ [V.ref R])) b = some o := fun b o nb e => (upd_ne nb).trans e
      refine ⟨_, _, _, _, as ++ [R], ts ++ [t], rfl, B4.new hF0, ?_, ?_, ?_, ?_, ?_, ?_, ?_⟩
      · obtain ⟨x1, x2, x3, e, e2⟩ := P4.mono (m := n + 10 + 24 * (i + 1)) (by omega)
        exact ⟨x1, x2, x3, kp _ _ nFp.symm e, e2⟩
      · rw [upd_same, List.map_append]
        rfl
      · exact Rows.snoc (kp _ _ nRF eR4) (R4.mono fun r hr o e => kp r o (fr r hr).2.1 e)
      · rw [List.length_append, hlen]
        rfl
      · refine List.nodup_append.mpr ⟨ndp, List.pairwise_singleton _ _, fun x hx y hy e => ?_⟩
        rw [e, List.mem_singleton.mp hy] at hx
        exact nRa hx
      · intro r hr
        rcases List.mem_append.mp hr with hr | hr
        · exact fr r hr
        · rw [List.mem_singleton.mp hr]
          exact ⟨hR0, nRF, nRp⟩
      · intro j t2 hj
        have hts : ts.length = i := by rw [← R3.length, hlen]
        by_cases lt : j < ts.length
        · rw [List.getElem?_append_left lt] at hj
          exact lk j t2 hj
        · rw [List.getElem?_append_right (Nat.le_of_not_lt lt)] at hj
          have ej : j - ts.length = 0 := by
            have := (List.getElem?_eq_some_iff.mp hj).1
            show j - ts.length = 0
            have h1 : j - ts.length < 1 := this
            omega
          rw [ej] at hj
          cases (Option.some.inj hj)
          have : j = i := by omega
          rw [this]
          exact ⟨tz, tp⟩
    obtain ⟨y7, y8, t, rfl, B4, P4, e4, R4, eR4, tl, tz, tp⟩ := hW
    have M0 : (0 : Int) < (M : Int) := by omega
    refine ⟨_, rfl, _, rfl, _, _, rfl, rfl, _, rfl, _, _, rfl, rfl, M0, rfl, .inr ⟨_, rfl, ?_⟩⟩
    refine ⟨_, rfl, _, rfl, _, _, rfl, rfl, _, rfl, rfl, .inr ⟨_, rfl, ?_⟩⟩
    refine ⟨.ref p, rfl, p, 2, _, rfl, P4, by omega, by decide, by decide, fun H5 d b5 P5 d0 d1 => ?_⟩
    generalize hx1 : (if decide (V.int (0 + (o : Int)) = V.int ((0 + (i : Int) + 1) % (M : Int))) = true then (1 : Int) else 0) = x1
    generalize hx2 : (if decide (V.int (if (0 + (i : Int) - (0 + (o : Int))) < 0 then -(0 + (i : Int) - (0 + (o : Int))) else 0 + (i : Int) - (0 + (o : Int))) = V.int 1) = true then (1 : Int) else 0) = x2
    clear hx1 hx2
    refine ⟨(by show 4 ≤ sizeLine; decide), fun G hG => ?_⟩
    have nGp : G ≠ p := fun e => by
      obtain ⟨o, eo⟩ := P5.at
      rw [e, eo] at hG
      cases hG
    have sG := same_new (o := .lst [.int 1, .int x1, .int x2, .int d]) hG
    have hG4 : H4 G = none := b5.free nGp hG
    have nFG : F ≠ G := fun e => by rw [← e, e4] at hG4; cases hG4
    have nRG : R ≠ G := fun e => by rw [← e, eR4] at hG4; cases hG4
    have eG : upd H5 G (.lst [.int 1, .int x1, .int x2, .int d]) G = some (.lst [.int 1, .int x1, .int x2, .int d]) := upd_same
    refine ⟨.ref G, rfl, .inl ⟨rfl, _, .inl (.inl eG)⟩, .ref p, rfl, p, 4, _, rfl, P5.same sG, by omega, by decide, by decide, fun H6 g b6 P6 g0 g1 => ?_⟩
    have eG6 := b6 _ _ nGp eG
    refine ⟨rfl, .inr ⟨_, rfl, G, _, _, rfl, rfl, eG6, (by show 4 < sizeLine; decide), ?_⟩⟩
    generalize (if decide (V.int g = V.int 0) = true then (1 : Int) else 0) = x3
    have b7 : But p H4 (upd H6 G (.lst ([.int 1, .int x1, .int x2, .int d] ++ [.int x3]))) := ((b5.trans (.of_same sG)).trans b6).new hG4
    have P7 : Pl (upd H6 G (.lst ([.int 1, .int x1, .int x2, .int d] ++ [.int x3]))) p (n + 10 + 24 * i + 2 * (o + 1)) := by
      obtain ⟨y1, y2, y3, e, e2⟩ := P6.mono (m := n + 10 + 24 * i + 2 * (o + 1)) (by omega)
      exact ⟨y1, y2, y3, (upd_ne nGp.symm).trans e, e2⟩
    have eG7 : upd H6 G (.lst ([.int 1, .int x1, .int x2, .int d] ++ [.int x3])) G = some (.lst [.int 1, .int x1, .int x2, .int d, .int x3]) := upd_same
    generalize upd H6 G (.lst ([.int 1, .int x1, .int x2, .int d] ++ [.int x3])) = H7 at b7 P7 eG7 ⊢
    clear sG eG eG6 b6 P6 b5 P5 hG P4
    have e7 := b7 _ _ nFp e4
    have eR7 := b7 _ _ nRp eR4
    have R7 : Rows H7 as ts := R4.mono fun r hr o e => b7 r o (fr r hr).2.2 e
    have B7 : But p H H7 := B4.trans b7
    have done : ∀ H8, H8 = H7 → ∃ y7 y8, ∃ t2 : List Int, [some (.ref p), some (.int most), some (.int (M : Int)), some (.int style), some (.ref F), some (.int (0 + (i : Int))), some (.ref R), some (V.int (0 + (o : Int))), some (V.ref G)] = [some (.ref p), some (.int most), some (.int (M : Int)), some (.int style), some (.ref F), some (.int (0 + (i : Int))), some (.ref R), y7, y8] ∧ But p H H8 ∧ Pl H8 p (n + 10 + 24 * i + 2 * (o + 1)) ∧
      H8 F = some (.lst (as.map V.ref)) ∧ Rows H8 as ts ∧ H8 R = some (.lst (t2.map V.int)) ∧ t2.length ≤ o + 1 ∧ (∀ z ∈ t2, 0 ≤ z ∧ z < ((o + 1 : Nat) : Int) ∧ z ≠ (i : Int)) ∧ t2.Pairwise (· < ·) := by
      intro H8 e8
      subst e8
      exact ⟨_, _, t, rfl, B7, P7, e7, R7, eR7, by omega, fun z hz => ⟨(tz z hz).1, by have := (tz z hz).2.1; omega, (tz z hz).2.2⟩, tp⟩
    refine ⟨_, rfl, _, rfl, rfl, _, rfl, ?_⟩
    by_cases c : (o : Int) = (i : Int)
    case pos =>
      rw [decide_eq_true (show V.int (0 + (o : Int)) = V.int (0 + (i : Int)) by rw [c])]
      show if (!true) = true then _ else _
      exact iteF (done _ rfl)
    rw [decide_eq_false (show ¬ V.int (0 + (o : Int)) = V.int (0 + (i : Int)) from fun w => c (by injection w with w; omega))]
    show if (!false) = true then _ else _
    refine iteT ?_
    obtain ⟨x, ax, mx⟩ := at_ex (xs := [V.int 1, .int x1, .int x2, .int d, .int x3]) st0 (by show style < 5; exact st1)
    obtain ⟨x4, rfl⟩ : ∃ x4, x = .int x4 := by
      rcases List.mem_cons.mp mx with e | mx
      · exact ⟨_, e⟩
      rcases List.mem_cons.mp mx with e | mx
      · exact ⟨_, e⟩
      rcases List.mem_cons.mp mx with e | mx
      · exact ⟨_, e⟩
      rcases List.mem_cons.mp mx with e | mx
      · exact ⟨_, e⟩
      · exact ⟨_, List.mem_singleton.mp mx⟩
    refine ⟨.ref G, rfl, _, rfl, G, _, _, _, rfl, rfl, .inl (.inl eG7), ax, rfl, _, rfl, ite2 (fun c2 => ?_) (fun c2 => ?_)⟩
    · refine ⟨.ref R, rfl, .inl ⟨rfl, _, .inl (.inl eR7)⟩, _, rfl, R, _, _, rfl, rfl, eR7, ?_, ?_⟩
      · rw [List.length_map]
        exact Nat.lt_of_le_of_lt (show t.length ≤ 12 by omega) (by decide)
      have kp : ∀ b o2, b ≠ R → H7 b = some o2 → upd H7 R (.lst (t.map V.int ++ [V.int (0 + (o : Int))])) b = some o2 := fun b o2 nb e => (upd_ne nb).trans e
      refine ⟨_, _, t ++ [(o : Int)], rfl, B7.new hR0, ?_, kp _ _ nRF.symm e7, R7.mono fun r hr o2 e => kp r o2 (fun w => nRa (w ▸ hr)) e, ?_, ?_, fun z hz => ?_, ?_⟩
      · obtain ⟨y1, y2, y3, e, e2⟩ := P7
        exact ⟨y1, y2, y3, kp _ _ nRp.symm e, e2⟩
      · rw [upd_same, List.map_append, Int.zero_add]
        rfl
      · rw [List.length_append]
        show t.length + 1 ≤ o + 1
        omega
      · rcases List.mem_append.mp hz with hz | hz
        · exact ⟨(tz z hz).1, by have := (tz z hz).2.1; omega, (tz z hz).2.2⟩
        · rw [List.mem_singleton.mp hz]
          exact ⟨Int.natCast_nonneg o, by omega, c⟩
      · refine List.pairwise_append.mpr ⟨tp, List.pairwise_singleton _ _, fun z hz z2 hz2 => ?_⟩
        rw [List.mem_singleton.mp hz2]
        exact (tz z hz).2.1
    · exact done _ rfl
def sp__law_stroll (K : PySem.W.Frag) : Sp := fun vs H Q _ => ∃ (p L : Addr) (as : List Addr) (ts : List (List Int)) (most : Int) (n : Nat), vs = [.ref p, .ref L, .int most] ∧ Net H L as ts ∧ L ≠ p ∧ (∀ r ∈ as, r ≠ p) ∧ Pl H p n ∧ n ≤ 900000 ∧ 1 ≤ most ∧ most ≤ 70 ∧
  ∀ H' r (l : List Int), But p H H' → Pl H' p (n + 100) → H r = none → H' r = some (.lst (l.map V.int)) → (l.length : Int) ≤ most → 1 ≤ l.length → (∀ z ∈ l, 0 ≤ z ∧ z < (as.length : Int)) → Q (.ref r) H'
theorem ok__law_stroll (T : Top K mg)
    (G__law_draw : FnOk P w K mg base CX0 1 T.a__law_draw T.d__law_draw ["_law_source_here", "_law_count"] (sp__law_draw K)) :
    FnOk P w K mg base CX0 2 T.a__law_stroll T.d__law_stroll ["_law_source_here", "_law_net_here", "_law_most"] (sp__law_stroll K) := by
  refine T.F__law_stroll.ok sc__law_stroll (fun vs H Q E h => ?_) (fun cdv A outer s H vs Q E hr h => ?_)
  · obtain ⟨p, L, as, ts, most, n, rfl, _⟩ := h
    rfl
  · obtain ⟨p, L, as, ts, most, n, rfl, N, nLp, nap, hP, hn, m1, m2, q⟩ := h
    have nd := sc__law_stroll.nd
    have hu := hu_of hr
    have hU := units_of hr
    have hu64 := u64_of hr
    refine ⟨_, (pss_cons (ps_set (i := 3) nd rfl (Or.inl rfl) (pe_lst (pa_cons (pe_call G__law_draw (hr.mono (by decide)) (by rfl) T.g__law_draw T.F__law_draw.kp T.b__law_draw .nil pass0 (pa_cons (pv 0) (pa_cons (pe_callB call_len_seq (by rfl) T.n_len (by decide +kernel) (pa_cons (pv 1) pa_nil)) pa_nil))) pa_nil)))
      (pss_cons (ps_for PassesOwn.never rfl (pi_range1 (by rfl) T.n_range (pa_cons (pe_op op_sub (pv 2) pe_int) pa_nil)) (pg_name (i := 4) nd rfl (Or.inl rfl)) (pss_cons (ps_set (i := 5) nd rfl (Or.inl rfl) (pe_ix ix_list (pv 1) (pe_ix ix_list (pv 3) (pe_un un_neg pe_int) (fun _ _ => rfl)) (fun _ _ => rfl)))
      (pss_one (ps_if (pt_cmpR (op_neD hu64) (pv 5) (pe_lst pa_nil) (nomark _)) (pss_one (ps_expr (pe_bm PySem.F.plainAttrs_list PySem.F.slot_list_append PySem.F.type_list_append mt_append (pv 3) (pa_cons (pe_ix ix_list (pv 5) (pe_call G__law_draw (hr.mono (by decide)) (by rfl) T.g__law_draw T.F__law_draw.kp T.b__law_draw .nil pass0 (pa_cons (pv 0) (pa_cons (pe_callB call_len_seq (by rfl) T.n_len (by decide +kernel) (pa_cons (pv 5) pa_nil)) pa_nil))) (fun _ _ => rfl)) pa_nil)))) pss_nil))))
      (pss_one (ps_ret (pe_slice sl_list (pv 3) po_none (po_some (pv 2))))))), ?_⟩
    have hal : (as.map V.ref).length = as.length := List.length_map _
    have h12 := N.high
    have h1l := N.low
    refine ⟨.ref p, rfl, .ref L, rfl, L, _, rfl, .inl (.inl (.inl N.net)), p, _, n, rfl, hP, by omega, (by rw [hal]; omega), (by rw [hal]; omega), fun H1 z b1 P1 z0 z1 => ⟨(by show 1 ≤ sizeLine; decide), fun F hF => ?_⟩⟩
    rw [hal] at z1
    have nFp := ne_of_pl P1 hF
    have hF0 : H F = none := b1.free nFp hF
    have sF := same_new (o := .lst [.int z]) hF
    have eF : upd H1 F (.lst [.int z]) F = some (.lst ([z].map V.int)) := upd_same
    have BF := b1.new (o := .lst [.int z]) hF0
    have PF := P1.same sF
    generalize upd H1 F (.lst [.int z]) = H2 at eF BF PF ⊢
    refine ⟨_, rfl, _, _, rfl, rfl, most - 1, rfl, by omega, by omega, for_range (n := (most - 1).toNat) (fun i σ H3 => ∃ y4 y5, ∃ l : List Int, σ = [some (.ref p), some (.ref L), some (.int most), some (.ref F), y4, y5] ∧ But p H H3 ∧ Pl H3 p (n + 1 + i) ∧ H3 F = some (.lst (l.map V.int)) ∧ 1 ≤ l.length ∧ l.length ≤ i + 1 ∧ ∀ z ∈ l, 0 ≤ z ∧ z < (as.length : Int)) ⟨_, _, [z], rfl, BF, PF, eF, Nat.le_refl 1, Nat.le_refl 1, fun w hw => by rw [List.mem_singleton.mp hw]; exact ⟨z0, z1⟩⟩ (fun i σ H3 hi hW => ?_) (fun σ H3 hW => ?_)⟩
    · obtain ⟨y4, y5, l, rfl, B3, P3, e3, l1, l2, lz⟩ := hW
      have N3 := N.but B3 nLp nap
      have lne : l ≠ [] := fun e => by rw [e] at l1; exact absurd l1 (by decide)
      have lb := at_back lne
      obtain ⟨w0, w1⟩ := lz _ (List.getLast_mem lne)
      generalize l.getLast lne = w at lb w0 w1
      obtain ⟨k, rfl⟩ := Int.eq_ofNat_of_zero_le w0
      obtain ⟨r, t, h1, h2, h3, h4⟩ := N3.row (j := k) (by omega)
      have ar : atI (as.map V.ref) (k : Int) = some (.ref r) := atI_nat (by rw [List.getElem?_map, h1]; rfl)
      have hrp := nap r (List.mem_of_getElem? h1)
      refine ⟨_, rfl, _, rfl, 1, rfl, F, _, _, _, rfl, rfl, .inl (.inl e3), lb, L, _, _, .ref r, rfl, rfl, .inl (.inl N3.net), ar, ?_⟩
      refine ⟨.ref r, rfl, Nat.zero_le _, fun Z hZ => ?_⟩
      have sZ := same_new (o := .lst []) hZ
      refine ⟨nD t, nD [], dp_nD (.inl (.inl (sZ _ _ h3))), dp_nD (.inl (.inl upd_same)), nD_shaped _, nD_shaped _, _, rfl, ?_⟩
      have hZp := ne_of_pl P3 hZ
      have BZ : But p H (upd H3 Z (.lst [])) := B3.new (B3.free hZp hZ)
      have PZ := P3.same sZ
      have eZ := sZ _ _ e3
      have tZ := sZ _ _ h3
      generalize upd H3 Z (.lst []) = H4 at BZ PZ eZ tZ ⊢
      rw [eqv_nD]
      by_cases c : t = []
      · rw [decide_eq_true c]
        show if (!true) = true then _ else _
        exact iteF ⟨_, _, l, rfl, BZ, PZ.mono (by omega), eZ, l1, by omega, lz⟩
      · rw [decide_eq_false c]
        show if (!false) = true then _ else _
        have tl : 1 ≤ t.length := by
          rcases Nat.eq_zero_or_pos t.length with w | w
          · exact absurd (List.length_eq_zero_iff.mp w) c
          · exact w
        refine iteT ⟨.ref F, rfl, .inl ⟨rfl, _, .inl (.inl eZ)⟩, _, rfl, .ref p, rfl, _, rfl, r, _, rfl, .inl (.inl (.inl tZ)), p, _, _, rfl, PZ, by omega, (by rw [List.length_map]; omega), (by rw [List.length_map]; omega), fun H5 v b5 P5 v0 v1 => ?_⟩
        have t5 := b5 _ _ hrp tZ
        have e5 := b5 _ _ nFp eZ
        have B5 := BZ.trans b5
        obtain ⟨x, hx, hxm⟩ := at_ex (xs := t.map V.int) v0 v1
        obtain ⟨u, hu, rfl⟩ := List.mem_map.mp hxm
        have ul := (N.links k t h2).1 u hu
        refine ⟨r, _, v, _, rfl, rfl, .inl (.inl t5), hx, F, _, _, rfl, rfl, e5, ?_, ?_⟩
        · rw [List.length_map]
          exact Nat.lt_of_le_of_lt (show l.length ≤ 71 by omega) (by decide)
        · refine ⟨_, _, l ++ [u], rfl, B5.new hF0, ?_, ?_, ?_, ?_, fun z hz => ?_⟩
          · obtain ⟨x1, x2, x3, e, e2⟩ := P5.mono (m := n + 1 + (i + 1)) (by omega)
            exact ⟨x1, x2, x3, (upd_ne nFp.symm).trans e, e2⟩
          · rw [upd_same, List.map_append]
            rfl
          · rw [List.length_append]
            omega
          · rw [List.length_append]
            show l.length + 1 ≤ i + 1 + 1
            omega
          · rcases List.mem_append.mp hz with hz | hz
            · exact lz z hz
            · rw [List.mem_singleton.mp hz]
              exact ⟨ul.1, ul.2.1⟩
    · obtain ⟨y4, y5, l, rfl, B3, P3, e3, l1, l2, lz⟩ := hW
      refine ⟨_, rfl, _, rfl, _, rfl, F, _, rfl, .inl (.inl e3), fun c hc => ?_⟩
      obtain ⟨m, rfl⟩ := Int.eq_ofNat_of_zero_le (show 0 ≤ most by omega)
      rw [cut_to, ← List.map_take]
      have hcp := ne_of_pl P3 hc
      have hc0 := B3.free hcp hc
      refine q _ c (l.take m) (B3.new hc0) ((P3.same (same_new hc)).mono (by omega)) hc0 upd_same (by rw [List.length_take]; omega) (by rw [List.length_take]; omega) fun z hz => lz z (List.mem_of_mem_take hz)
def sp__law_trail (K : PySem.W.Frag) : Sp := fun vs H Q _ => ∃ (a : Addr) (l : List Int), vs = [.ref a] ∧ H a = some (.lst (l.map V.int)) ∧ l.length ≤ 1000 ∧ ∀ H' r, Same H H' → H r = none → H' r = some (.lst ((play [] l).map V.int)) → Q (.ref r) H'
theorem ok__law_trail (T : Top K mg) :
    FnOk P w K mg base CX0 1 T.a__law_trail T.d__law_trail ["_law_row"] (sp__law_trail K) := by
  refine T.F__law_trail.ok sc__law_trail (fun vs H Q E h => ?_) (fun cdv A outer s H vs Q E hr h => ?_)
  · obtain ⟨a, l, rfl, _⟩ := h
    rfl
  · obtain ⟨a, l, rfl, ea, hl, q⟩ := h
    have nd := sc__law_trail.nd
    have hu := hu_of hr
    have hU := units_of hr
    have hu64 := u64_of hr
    refine ⟨_, (pss_cons (ps_set (i := 1) nd rfl (Or.inl rfl) (pe_lst pa_nil))
      (pss_cons (ps_for PassesOwn.never rfl (pi_list (pv 0)) (pg_name (i := 2) nd rfl (Or.inl rfl)) (pss_one (ps_set (i := 1) nd rfl (Or.inl rfl) (pe_ifExp (pt_cmpR op_in_seq (pv 2) (pv 1) rfl) (pe_slice sl_list (pv 1) po_none (po_some (pe_op op_add (pe_bm PySem.F.plainAttrs_list PySem.F.slot_list_index PySem.F.type_list_index mt_index (pv 1) (pa_cons (pv 2) pa_nil)) pe_int))) (pe_op op_cat (pv 1) (pe_lst (pa_cons (pv 2) pa_nil)))))))
      (pss_one (ps_ret (pv 1))))), ?_⟩
    refine ⟨Nat.zero_le _, fun F hF => ?_⟩
    refine ⟨.ref a, rfl, a, rfl, ⟨_, .inl (.inl ((same_new hF) _ _ ea))⟩, for_list (xs := l.map V.int) (fun i σ H2 => ∃ (r : Addr) (y : Option V), σ = [some (.ref a), some (.ref r), y] ∧ Same H H2 ∧ H r = none ∧ H2 r = some (.lst ((play [] (l.take i)).map V.int))) ⟨F, none, rfl, same_new hF, hF, upd_same⟩ (fun i σ H2 _ hW => ?_) (fun i x σ H2 hi hW => ?_) (fun σ H2 hW => ?_)⟩
    · obtain ⟨_, _, _, s2, _⟩ := hW
      exact .inl (.inl (s2 _ _ ea))
    · obtain ⟨r, y, rfl, s2, hr, er⟩ := hW
      obtain ⟨p, hp, rfl⟩ := at_nums hi
      have hlen := play_len (l.take i) []
      rw [List.length_take] at hlen
      have hlen2 : (play [] (l.take i)).length ≤ 1000 := by
        have h0 : ([] : List Int).length = 0 := rfl
        omega
      have hst := play_step [] l hp
      generalize play [] (l.take i) = t at er hlen2 hst
      refine ⟨_, rfl, .ref r, rfl, r, _, rfl, .inl (.inl (.inl er)), rfl, flat_nums t, _, rfl, ?_⟩
      show if inV (.int p) (t.map V.int) = true then _ else _
      rw [inV_nums]
      refine ite2 (fun c => ?_) (fun c => ?_)
      · have hm := of_decide_eq_true c
        obtain ⟨i1, i2, i3⟩ := idx_nums hm
        refine ⟨.ref r, rfl, .ref r, rfl, .inl ⟨rfl, _, .inl (.inl er)⟩, _, rfl, r, _, _, t.idxOf p, _, rfl, rfl, .inl (.inl er), rfl, flat_nums t, i1, beq_self_eq_true p, i3, _, _, rfl, rfl, _, rfl, r, _, rfl, .inl (.inl er), fun u hu => ?_⟩
        refine ⟨u, _, rfl, s2.trans (same_new hu), s2.free hu, ?_⟩
        rw [hst, upd_same, show ((t.idxOf p : Nat) : Int) + 1 = ((t.idxOf p + 1 : Nat) : Int) from rfl, cut_to, ← List.map_take]
        unfold vis
        rw [if_pos hm]
      · have hm : ¬ p ∈ t := fun z => c (decide_eq_true z)
        refine ⟨.ref r, rfl, _, rfl, (by show 1 ≤ sizeLine; decide), fun b hb => ⟨r, b, _, _, rfl, rfl, (same_new hb) _ _ er, upd_same, ?_, fun u hu => ?_⟩⟩
        · rw [List.length_map]
          exact Nat.le_trans (show t.length + 1 ≤ 1001 by omega) (by decide)
        · have sb := same_new (o := .lst [V.int p]) hb
          refine ⟨u, _, rfl, (s2.trans sb).trans (same_new hu), s2.free (sb.free hu), ?_⟩
          rw [hst, upd_same]
          unfold vis
          rw [if_neg hm, List.map_append]
          rfl
    · obtain ⟨r, y, rfl, s2, hr, er⟩ := hW
      rw [List.length_map, List.take_length] at er
      exact ⟨.ref r, rfl, q H2 r s2 hr er⟩
def sp_is_int (K : PySem.W.Frag) : Sp := fun vs H Q _ => ∃ x, vs = [x] ∧ Kn H x ∧ Q (.bl (isI x)) H
theorem ok_is_int (T : Top K mg) :
    FnOk P w K mg base CX0 1 T.a_is_int T.d_is_int ["value"] (sp_is_int K) := by
  refine T.F_is_int.ok sc_is_int (fun vs H Q E h => ?_) (fun cdv A outer s H vs Q E hr h => ?_)
  · obtain ⟨x, rfl, _⟩ := h
    rfl
  · obtain ⟨x, rfl, hk, q⟩ := h
    have nd := sc_is_int.nd
    have hu := hu_of hr
    have hU := units_of hr
    have hu64 := u64_of hr
    refine ⟨_, (pss_one (ps_ret (pe_and (pe_callB call_isi (by rfl) T.n_isinstance (by decide +kernel) (pa_cons (pv 0) (pa_cons (pe_bltn (v := .ty "int") (by rfl) T.n_int (by decide +kernel) rfl) pa_nil))) (pe_one (pe_not (pe_callB call_isi (by rfl) T.n_isinstance (by decide +kernel) (pa_cons (pv 0) (pa_cons (pe_bltn (v := .ty "bool") (by rfl) T.n_bool (by decide +kernel) rfl) pa_nil)))))))), ?_⟩
    rw [isI_eq] at q
    refine ⟨x, rfl, x, _, _, _, _, rfl, .ty _, hk.ty, kit_ty (kit_int H hk), _, rfl, ite2 (fun c => ⟨x, rfl, x, _, _, _, _, rfl, .ty _, hk.ty, kit_ty (kit_bool H hk), _, rfl, ?_⟩) (fun c => ?_)⟩
    · rw [c] at q
      exact q
    · rw [eq_false_of_ne_true c] at q
      exact q
def sp_is_between (K : PySem.W.Frag) : Sp := fun vs H Q _ => ∃ x lo hi, vs = [x, .int lo, .int hi] ∧ Kn H x ∧ Q (.bl (inRg lo hi x)) H
theorem ok_is_between (T : Top K mg)
    (G_is_int : FnOk P w K mg base CX0 1 T.a_is_int T.d_is_int ["value"] (sp_is_int K)) :
    FnOk P w K mg base CX0 2 T.a_is_between T.d_is_between ["value", "low", "high"] (sp_is_between K) := by
  refine T.F_is_between.ok sc_is_between (fun vs H Q E h => ?_) (fun cdv A outer s H vs Q E hr h => ?_)
  · obtain ⟨x, lo, hi, rfl, _⟩ := h
    rfl
  · obtain ⟨x, lo, hi, rfl, hk, q⟩ := h
    have nd := sc_is_between.nd
    have hu := hu_of hr
    have hU := units_of hr
    have hu64 := u64_of hr
    refine ⟨_, (pss_one (ps_ret (pe_and (pe_call G_is_int (hr.mono (by decide)) (by rfl) T.g_is_int T.F_is_int.kp T.b_is_int .nil pass0 (pa_cons (pv 0) pa_nil)) (pe_one (pe_chain op_le op_le (pv 1) (pv 0) (pv 2)))))), ?_⟩
    refine ⟨x, rfl, x, rfl, hk, _, rfl, ite2 (fun c => ?_) (fun c => ?_)⟩
    · obtain ⟨i, rfl⟩ := isI_of c
      refine ⟨_, rfl, _, rfl, _, _, rfl, rfl, _, rfl, ite2 (fun d => ⟨_, rfl, _, _, rfl, rfl, ?_⟩) (fun d => ?_)⟩
      · have e : inRg lo hi (.int i) = decide (i ≤ hi) := by
          show (decide (lo ≤ i) && decide (i ≤ hi)) = _
          rw [d, Bool.true_and]
        show Q (.bl (decide (i ≤ hi))) H
        rw [← e]
        exact q
      · have e : inRg lo hi (.int i) = false := by
          show (decide (lo ≤ i) && decide (i ≤ hi)) = _
          rw [eq_false_of_ne_true d, Bool.false_and]
        show Q (.bl false) H
        rw [← e]
        exact q
    · have e : inRg lo hi x = false := by
        cases x <;> first | rfl | exact absurd rfl c
      show Q (.bl false) H
      rw [← e]
      exact q
def sp_are_pages (K : PySem.W.Frag) : Sp := fun vs H Q _ => ∃ x m, vs = [x, .int m] ∧ OkV H x ∧ ∀ H', Same H H' → Q (.bl (itemsB (pgsB m) H x)) H'
theorem ok_are_pages (T : Top K mg)
    (G_is_between : FnOk P w K mg base CX0 2 T.a_is_between T.d_is_between ["value", "low", "high"] (sp_is_between K)) :
    FnOk P w K mg base CX0 3 T.a_are_pages T.d_are_pages ["value", "many"] (sp_are_pages K) := by
  refine T.F_are_pages.ok sc_are_pages (fun vs H Q E h => ?_) (fun cdv A outer s H vs Q E hr h => ?_)
  · obtain ⟨x, m, rfl, _⟩ := h
    rfl
  · obtain ⟨x, m, rfl, hk, q⟩ := h
    have nd := sc_are_pages.nd
    have hu := hu_of hr
    have hU := units_of hr
    have hu64 := u64_of hr
    refine ⟨_, (pss_one (ps_ret (pe_and (pe_callB call_isi (by rfl) T.n_isinstance (by decide +kernel) (pa_cons (pv 0) (pa_cons (pe_bltn (v := .ty "list") (by rfl) T.n_list (by decide +kernel) rfl) pa_nil))) (pe_one (pe_callB (cr_all rfl) (by rfl) T.n_all (by decide +kernel) (pa_cons (pe_lc (own := [("item", 2)]) (tt := tYes) rfl nd  (pi_list (pv 0)) (blkOk_by (N := N_are_pages) (sc := defScope s_are_pages) (by decide +kernel)) (fun _ _ _ _ _ => (pg_name (i := 2) nd rfl (Or.inl rfl))) (fun _ _ _ _ _ => pts_nil) (fun _ _ _ _ _ => (pe_call G_is_between (hr.mono (by decide)) (by rfl) T.g_is_between T.F_is_between.kp T.b_is_between .nil pass0 (pa_cons (pv 2) (pa_cons pe_int (pa_cons (pe_op op_sub (pv 1) pe_int) pa_nil)))))) pa_nil)))))), ?_⟩
    refine ⟨x, rfl, x, _, _, _, _, rfl, .ty _, hk.1.ty, kit_ty (kit_list H hk.1), _, rfl, ite2 (fun c => ?_) (fun c => ?_)⟩
    · obtain ⟨a, xs, rfl, ea⟩ := isLB_of c
      obtain ⟨hl, hy⟩ := hk.2 a xs rfl ea
      rw [itemsB_lst ea] at q
      refine ⟨.ref a, rfl, a, rfl, ⟨xs, .inl (.inl ea)⟩, fun D hD => lc_list (xs := xs) (fun i H' => Same H H' ∧ H' D = some (.lst ((xs.take i).map fun y => V.bl (inRg 0 (m - 1) y)))) ⟨same_new hD, upd_same⟩ (fun i H' _ hp => .inl (.inl (hp.1 _ _ ea))) (fun i y H' hi hp => ?_) (fun H' hp => ?_)⟩
      · refine ⟨rfl, y, rfl, _, rfl, _, _, rfl, rfl, ?_⟩
        obtain ⟨hs, eD⟩ := hp
        refine ⟨y, 0, m - 1, rfl, (hy y (List.mem_of_getElem? hi)).same hs, _, eD, ?_, ?_, ?_⟩
        · rw [List.length_map, List.length_take]
          exact Nat.lt_of_le_of_lt (Nat.min_le_right _ _) (Nat.lt_of_le_of_lt hl (by decide))
        · intro b o e
          have nb : b ≠ D := ne_of_none e hD
          rw [upd_ne nb]
          exact hs b o e
        · rw [upd_same, List.take_add_one, hi, List.map_append]
          rfl
      · obtain ⟨hs, eD⟩ := hp
        rw [List.take_length] at eD
        have e2 : xs.map (fun y => V.bl (inRg 0 (m - 1) y)) = (xs.map (inRg 0 (m - 1))).map V.bl := by
          rw [List.map_map]
          rfl
        rw [e2] at eD
        refine ⟨D, _, rfl, .inl (.inl eD), ?_⟩
        have e3 : (xs.map (inRg 0 (m - 1))).all id = pgsB m xs := by
          unfold pgsB
          rw [List.all_map]
          rfl
        rw [e3]
        exact q H' hs
    · rw [itemsB_no c] at q
      exact q H (Same.refl H)
def sp__are_links (K : PySem.W.Frag) : Sp := fun vs H Q _ => ∃ (x : V) (p : Int) (m : Nat), vs = [x, .int p, .int m] ∧ OkV H x ∧ m ≤ 40 ∧ ∀ H', Same H H' → Q (.bl (itemsB (linkB p m) H x)) H'
theorem ok__are_links (T : Top K mg)
    (G_are_pages : FnOk P w K mg base CX0 3 T.a_are_pages T.d_are_pages ["value", "many"] (sp_are_pages K)) :
    FnOk P w K mg base CX0 4 T.a__are_links T.d__are_links ["value", "page", "many"] (sp__are_links K) := by
  refine T.F__are_links.ok sc__are_links (fun vs H Q E h => ?_) (fun cdv A outer s H vs Q E hr h => ?_)
  · obtain ⟨x, p, m, rfl, _⟩ := h
    rfl
  · obtain ⟨x, p, m, rfl, hk, hm, q⟩ := h
    have nd := sc__are_links.nd
    have hu := hu_of hr
    have hU := units_of hr
    have hu64 := u64_of hr
    refine ⟨_, (pss_one (ps_ret (pe_and (pe_call G_are_pages (hr.mono (by decide)) (by rfl) T.g_are_pages T.F_are_pages.kp T.b_are_pages .nil pass0 (pa_cons (pv 0) (pa_cons (pv 2) pa_nil))) (pe_and (pe_cmpR (op_eqD hu64) (pv 0) (pe_callB (cr_sortedSet rfl) (by rfl) T.n_sorted (by decide +kernel) (pa_cons (pe_callTy (cr_setL rfl) (by rfl) T.n_set (by decide +kernel) (pa_cons (pv 0) pa_nil)) pa_nil)) (nomark _)) (pe_one (pe_cmpR op_notIn_seq (pv 1) (pv 0) rfl)))))), ?_⟩
    refine ⟨x, rfl, _, rfl, x, m, rfl, hk, fun H1 s1 => ⟨_, rfl, ite2 (fun c => ?_) (fun c => ?_)⟩⟩
    · by_cases hL : isLB H x = true
      · obtain ⟨a, xs, rfl, ea⟩ := isLB_of hL
        rw [itemsB_lst ea] at c q
        have ex := nums_of (show xs.all (inRg 0 (m - 1)) = true from c)
        have e1 : H1 a = some (.lst ((nums xs).map V.int)) := by
          rw [ex]
          exact s1 _ _ ea
        have hl : (nums xs).length ≤ 4000 := by
          unfold nums
          rw [List.length_map]
          exact (hk.2 a xs rfl ea).1
        have rg : ∀ k ∈ nums xs, 0 ≤ k ∧ k < (m : Int) := fun k kk => by
          have h1 : xs.all (inRg 0 (m - 1)) = true := c
          rw [← ex] at h1
          have h2 := List.all_eq_true.mp h1 (.int k) (List.mem_map.mpr ⟨k, kk, rfl⟩)
          have h3 : (decide (0 ≤ k) && decide (k ≤ (m : Int) - 1)) = true := h2
          rw [Bool.and_eq_true] at h3
          have h4 := of_decide_eq_true h3.1
          have h5 := of_decide_eq_true h3.2
          omega
        refine ⟨.ref a, rfl, .ref a, rfl, a, nums xs, rfl, .inl (.inl e1), hl, fun S n hS once => ⟨S, _, n, rfl, upd_same, by have := once_le once rg; omega, fun ns z pw mem len hz => ?_⟩⟩
        have s2 := (same_new (o := SetO w S (fun j => decide (j ∈ nums xs)) n) hS).trans (same_new (o := .lst (ns.map V.int)) hz)
        have e2 := s2 _ _ e1
        refine ⟨nD (nums xs), nD ns, dp_nD (.inl (.inl e2)), dp_nD (.inl (.inl upd_same)), nD_shaped _, nD_shaped _, _, rfl, ?_⟩
        have e3 : PyData.eqv (nD (nums xs)) (nD ns) = decide ((nums xs).Pairwise (· < ·)) := by
          rw [eqv_nD]
          exact decide_eq_decide.mpr (sorted_iff pw fun k => (mem k).trans decide_eq_true_iff)
        rw [e3]
        have el : linkB p m xs = (decide ((nums xs).Pairwise (· < ·)) && !decide (p ∈ nums xs)) := by
          unfold linkB
          rw [c, Bool.true_and]
        rw [el] at q
        have q2 := q _ (s1.trans s2)
        refine ite2 (fun d => ?_) (fun d => ?_)
        · refine ⟨_, rfl, .ref a, rfl, a, _, rfl, .inl (.inl (.inl e2)), rfl, flat_nums _, ?_⟩
          rw [d, Bool.true_and] at q2
          show Q (.bl (!inV (.int p) ((nums xs).map V.int))) _
          rw [inV_nums]
          exact q2
        · rw [eq_false_of_ne_true d, Bool.false_and] at q2
          exact q2
      · rw [itemsB_no hL] at c
        cases c
    · have e : itemsB (linkB p m) H x = false := by
        by_cases hL : isLB H x = true
        · obtain ⟨a, xs, rfl, ea⟩ := isLB_of hL
          rw [itemsB_lst ea] at c ⊢
          unfold linkB
          rw [eq_false_of_ne_true c, Bool.false_and]
        · exact itemsB_no hL
      rw [e] at q
      exact q H1 s1
def sp_is_site (K : PySem.W.Frag) : Sp := fun vs H Q _ => ∃ x, vs = [x] ∧ Ok2 H x ∧ ∀ H', Same H H' → Q (.bl (siteB H x)) H'
theorem ok_is_site (T : Top K mg)
    (G__are_links : FnOk P w K mg base CX0 4 T.a__are_links T.d__are_links ["value", "page", "many"] (sp__are_links K)) :
    FnOk P w K mg base CX0 5 T.a_is_site T.d_is_site ["value"] (sp_is_site K) := by
  refine T.F_is_site.ok sc_is_site (fun vs H Q E h => ?_) (fun cdv A outer s H vs Q E hr h => ?_)
  · obtain ⟨x, rfl, _⟩ := h
    rfl
  · obtain ⟨x, rfl, hk, q⟩ := h
    have nd := sc_is_site.nd
    have hu := hu_of hr
    have hU := units_of hr
    have hu64 := u64_of hr
    refine ⟨_, (pss_cons (ps_if ((pw_or (pt_not (pt_val (pe_callB call_isi (by rfl) T.n_isinstance (by decide +kernel) (pa_cons (pv 0) (pa_cons (pe_bltn (v := .ty "list") (by rfl) T.n_list (by decide +kernel) rfl) pa_nil))))) (pw_or1 (pt_not (pt_chain op_le op_le pe_int (pe_callB call_len_seq (by rfl) T.n_len (by decide +kernel) (pa_cons (pv 0) pa_nil)) (pe_glob (v := .int (12)) (by rfl) T.g_MOST_PAGES ⟨_, rfl⟩)))))).pt (pss_one (ps_ret pe_bl)) pss_nil)
      (pss_one (ps_ret (pe_callB (cr_all rfl) (by rfl) T.n_all (by decide +kernel) (pa_cons (pe_lc (own := [("page", 1), ("links", 2)]) (tt := tYes) rfl nd  (pi_enum (by rfl) T.n_enumerate (pa_cons (pv 0) pa_nil)) (blkOk_by (N := N_is_site) (sc := defScope s_is_site) (by decide +kernel)) (fun _ _ _ _ _ => (pg_tupK (K := K) (n := 2) rfl rfl (pgs_cons (pg_name (i := 1) nd rfl (Or.inl rfl)) (pgs_cons (pg_name (i := 2) nd rfl (Or.inl rfl)) pgs_nil)))) (fun _ _ _ _ _ => pts_nil) (fun _ _ _ _ _ => (pe_call G__are_links (hr.mono (by decide)) (by rfl) T.g__are_links T.F__are_links.kp T.b__are_links .nil pass0 (pa_cons (pv 2) (pa_cons (pv 1) (pa_cons (pe_callB (call_lenK (K := K) rfl) (by rfl) T.n_len (by decide +kernel) (pa_cons (pv 0) pa_nil)) pa_nil)))))) pa_nil))))), ?_⟩
    refine ⟨x, rfl, x, _, _, _, _, rfl, .ty _, hk.1.ty, kit_ty (kit_list H hk.1), _, rfl, ?_⟩
    show if (!isLB H x) = true then _ else _
    by_cases hL : isLB H x = true
    case neg =>
      rw [eq_false_of_ne_true hL]
      refine iteT ?_
      have := q H (Same.refl H)
      unfold siteB at this
      rw [itemsB_no hL] at this
      exact this
    rw [hL]
    refine iteF ?_
    obtain ⟨a, xs, rfl, ea⟩ := isLB_of hL
    obtain ⟨hlen, hkn⟩ := hk.2 a xs rfl ea
    unfold siteB at q
    rw [itemsB_lst ea] at q
    refine ⟨.ref a, rfl, a, xs, rfl, .inl (.inl (.inl ea)), _, _, rfl, rfl, _, rfl, ite2 (fun d => ?_) (fun d => ?_)⟩
    case refine_2 =>
      refine ⟨_, rfl, ?_⟩
      show if (!false) = true then _ else _
      refine iteT ?_
      have := q H (Same.refl H)
      unfold siteL at this
      have h1 : ¬ 1 ≤ xs.length := fun w => d (decide_eq_true (by omega))
      rw [decide_eq_false h1, Bool.false_and] at this
      exact this
    have d1 := of_decide_eq_true d
    have d2 : 1 ≤ xs.length := by omega
    refine ⟨_, _, rfl, rfl, _, rfl, ?_⟩
    by_cases c : xs.length ≤ 12
    case neg =>
      rw [decide_eq_false (show ¬ ((xs.length : Nat) : Int) ≤ 12 by omega)]
      show if (!false) = true then _ else _
      refine iteT ?_
      have := q H (Same.refl H)
      unfold siteL at this
      rw [decide_eq_false c, Bool.false_and, Bool.and_false] at this
      exact this
    rw [decide_eq_true (show ((xs.length : Nat) : Int) ≤ 12 by omega)]
    show if (!true) = true then _ else _
    refine iteF ?_
    refine ⟨.ref a, rfl, a, _, rfl, .inl (.inl ea), fun D hD => lc_enum (xs := xs) (fun i H2 => Same H H2 ∧ H2 D = some (.lst (((List.range i).map (rowB H xs)).map V.bl))) ⟨same_new hD, upd_same⟩ (fun i H2 _ hW => .inl (.inl (hW.1 _ _ ea))) (fun i y H2 T hi hW hT => ?_) (fun H2 hW => ?_)⟩
    · obtain ⟨s2, eD⟩ := hW
      have hil : i < xs.length := (List.getElem?_eq_some_iff.mp hi).1
      have hm := List.mem_of_getElem? hi
      have s3 : Same H (upd H2 T (.tup [.int (i : Nat), y])) := s2.trans (same_new hT)
      refine ⟨T, _, rfl, .inl (.inl upd_same), rfl, _, _, rfl, _, [], rfl, rfl, rfl, ?_⟩
      refine ⟨_, rfl, _, rfl, .ref a, rfl, a, xs, rfl, .inl (.inl (.inl (s3 _ _ ea))), y, (i : Int), xs.length, rfl, okv_same s3 (hkn y hm), by omega, fun H4 s4 => ?_⟩
      rw [itemsB_same s3 (hkn y hm).1]
      have eD4 := s4 _ _ ((same_new (o := .tup [.int (i : Nat), y]) hT) _ _ eD)
      refine ⟨_, eD4, ?_, fun b o e => ?_, ?_⟩
      · rw [List.length_map, List.length_map, List.length_range]
        exact Nat.lt_of_lt_of_le hil (Nat.le_trans c (by decide))
      · rw [upd_ne (ne_of_none e hD)]
        exact s4 _ _ (s3 _ _ e)
      · rw [upd_same, List.range_succ, List.map_append, List.map_append]
        have er : rowB H xs i = itemsB (linkB (i : Int) (xs.length : Int)) H y := by
          unfold rowB
          rw [hi]
        show some (HO.lst (_ ++ [_])) = some (HO.lst (_ ++ [V.bl (rowB H xs i)]))
        rw [er]
    · obtain ⟨s2, eD⟩ := hW
      refine ⟨D, _, rfl, .inl (.inl eD), ?_⟩
      have e3 : (((List.range xs.length).map (rowB H xs)).all id) = siteL H xs := by
        unfold siteL
        rw [decide_eq_true d2, decide_eq_true c, Bool.true_and, Bool.true_and, List.all_map]
        rfl
      rw [e3]
      exact q H2 s2
def sp_check_site (K : PySem.W.Frag) : Sp := fun vs H Q _ => ∃ (L : Addr) (as : List Addr) (ts : List (List Int)), vs = [.ref L] ∧ Net H L as ts ∧ ∀ H', Same H H' → Q .non H'
theorem ok_check_site (T : Top K mg)
    (G_is_site : FnOk P w K mg base CX0 5 T.a_is_site T.d_is_site ["value"] (sp_is_site K)) :
    FnOk P w K mg base CX0 6 T.a_check_site T.d_check_site ["site"] (sp_check_site K) := by
  refine T.F_check_site.ok sc_check_site (fun vs H Q E h => ?_) (fun cdv A outer s H vs Q E hr h => ?_)
  · obtain ⟨L, as, ts, rfl, _⟩ := h
    rfl
  · obtain ⟨L, as, ts, rfl, N, q⟩ := h
    have nd := sc_check_site.nd
    have hu := hu_of hr
    have hU := units_of hr
    have hu64 := u64_of hr
    refine ⟨_, (pss_one (ps_if (pt_not (pt_val (pe_call G_is_site (hr.mono (by decide)) (by rfl) T.g_is_site T.F_is_site.kp T.b_is_site .nil pass0 (pa_cons (pv 0) pa_nil)))) (pss_one ps_never) pss_nil)), ?_⟩
    refine ⟨.ref L, rfl, .ref L, rfl, N.ok, fun H1 s1 => ⟨_, rfl, ?_⟩⟩
    rw [N.site]
    show if (!true) = true then _ else _
    exact iteF (q H1 s1)
def sp__is_linked (K : PySem.W.Frag) : Sp := fun vs H Q _ => ∃ (L a : Addr) (as : List Addr) (ts : List (List Int)) (l : List Int), vs = [.ref L, .ref a] ∧ Net H L as ts ∧ H a = some (.lst (l.map V.int)) ∧ l.length ≤ 4000 ∧ (∀ z ∈ l, 0 ≤ z ∧ z < (as.length : Int)) ∧ ∀ H', Same H H' → Q (.bl (linkedB ts l)) H'
theorem ok__is_linked (T : Top K mg) :
    FnOk P w K mg base CX0 1 T.a__is_linked T.d__is_linked ["site", "pages"] (sp__is_linked K) := by
  refine T.F__is_linked.ok sc__is_linked (fun vs H Q E h => ?_) (fun cdv A outer s H vs Q E hr h => ?_)
  · obtain ⟨L, a, as, ts, l, rfl, _⟩ := h
    rfl
  · obtain ⟨L, a, as, ts, l, rfl, N, ea, hl, hz, q⟩ := h
    have nd := sc__is_linked.nd
    have hu := hu_of hr
    have hU := units_of hr
    have hu64 := u64_of hr
    refine ⟨_, (pss_one (ps_ret (pe_callB (cr_all rfl) (by rfl) T.n_all (by decide +kernel) (pa_cons (pe_lc (own := [("page", 2), ("after", 3)]) (tt := tYes) rfl nd  (pi_zip (by rfl) T.n_zip (pa_cons (pv 1) (pa_cons (pe_slice sl_list (pv 1) (po_some pe_int) po_none) pa_nil))) (blkOk_by (N := N__is_linked) (sc := defScope s__is_linked) (by decide +kernel)) (fun _ _ _ _ _ => (pg_tupK (K := K) (n := 2) rfl rfl (pgs_cons (pg_name (i := 2) nd rfl (Or.inl rfl)) (pgs_cons (pg_name (i := 3) nd rfl (Or.inl rfl)) pgs_nil)))) (fun _ _ _ _ _ => pts_nil) (fun _ _ _ _ _ => (pe_cmpR (op_inK (K := K) rfl) (pv 3) (pe_ix (ix_listK (K := K) rfl) (pv 0) (pv 2) (fun _ _ => rfl)) rfl))) pa_nil)))), ?_⟩
    refine ⟨.ref a, rfl, .ref a, rfl, 1, rfl, a, _, rfl, .inl (.inl ea), fun c fc => ?_⟩
    have ec : cutV (l.map V.int) (some 1) none = (l.drop 1).map V.int := (cut_from _ 1).trans (by rw [List.map_drop])
    rw [ec]
    have sc := same_new (o := .lst ((l.drop 1).map V.int)) fc
    have e2 : upd H c (.lst ((l.drop 1).map V.int)) c = some (.lst ((l.drop 1).map V.int)) := upd_same
    generalize upd H c (.lst ((l.drop 1).map V.int)) = H1 at sc e2 ⊢
    have e1 := sc _ _ ea
    have N1 := N.same sc
    refine ⟨a, c, _, _, rfl, .inl (.inl e1), .inl (.inl e2), fun D hD => lc_zip (n := l.length - 1) (by rw [List.length_map, List.length_map, List.length_drop]; omega) (fun i G => Same H1 G ∧ G D = some (.lst (((List.range i).map (linkAt ts l)).map V.bl))) ⟨same_new hD, upd_same⟩ (fun i G hp => ⟨.inl (.inl (hp.1 _ _ e1)), .inl (.inl (hp.1 _ _ e2))⟩) (fun i x y G T hx hy hp hT => ?_) (fun G hp => ?_)⟩
    · obtain ⟨s2, eD⟩ := hp
      obtain ⟨z, hz1, rfl⟩ := at_nums hx
      obtain ⟨w, hw1, rfl⟩ := at_nums hy
      rw [List.getElem?_drop, Nat.add_comm] at hw1
      have s3 := s2.trans (same_new (o := .tup [.int z, .int w]) hT)
      have eD3 := (same_new (o := .tup [.int z, .int w]) hT) _ _ eD
      refine ⟨T, _, rfl, .inl (.inl upd_same), rfl, _, _, rfl, _, [], rfl, rfl, rfl, ?_⟩
      generalize upd G T (.tup [.int z, .int w]) = G2 at s3 eD3 ⊢
      have N3 := N1.same s3
      obtain ⟨z0, z1⟩ := hz z (List.mem_of_getElem? hz1)
      obtain ⟨k, rfl⟩ := Int.eq_ofNat_of_zero_le z0
      obtain ⟨r, t, h1, h2, h3, _⟩ := N3.row (j := k) (by omega)
      have ar : atI (as.map V.ref) (k : Int) = some (.ref r) := atI_nat (by rw [List.getElem?_map, h1]; rfl)
      refine ⟨_, rfl, _, rfl, _, rfl, L, _, _, .ref r, rfl, rfl, .inl (.inl N3.net), ar, r, _, rfl, .inl (.inl (.inl h3)), rfl, flat_nums _, ?_⟩
      refine ⟨_, eD3, ?_, fun b o e => (upd_ne (ne_of_none e hD)).trans (s3 _ _ e), ?_⟩
      · rw [List.length_map, List.length_map, List.length_range]
        have := (List.getElem?_eq_some_iff.mp hw1).1
        exact Nat.lt_of_le_of_lt (show i ≤ 4000 by omega) (by decide)
      · rw [upd_same, List.range_succ, List.map_append, List.map_append]
        have el : linkAt ts l i = decide (w ∈ t) := by
          unfold linkAt
          have g1 : l.getD i 0 = (k : Int) := by rw [List.getD_eq_getElem?_getD, hz1]; rfl
          have g2 : l.getD (i + 1) 0 = w := by rw [List.getD_eq_getElem?_getD, hw1]; rfl
          have g3 : ts.getD k [] = t := by rw [List.getD_eq_getElem?_getD, h2]; rfl
          rw [g1, g2, Int.toNat_natCast, g3]
        show some (HO.lst (_ ++ [V.bl (inV (.int w) (t.map V.int))])) = some (HO.lst (_ ++ [V.bl (linkAt ts l i)]))
        rw [inV_nums, el]
    · obtain ⟨s2, eD⟩ := hp
      refine ⟨D, _, rfl, .inl (.inl eD), ?_⟩
      have e3 : (((List.range (l.length - 1)).map (linkAt ts l)).all id) = linkedB ts l := by
        unfold linkedB
        rw [List.all_map]
        rfl
      rw [e3]
      exact q G (sc.trans s2)
def sp_is_walk (K : PySem.W.Frag) : Sp := fun vs H Q _ => ∃ (L : Addr) (as : List Addr) (ts : List (List Int)) (x : V), vs = [.ref L, x] ∧ Net H L as ts ∧ OkV H x ∧ ∀ H', Same H H' → Q (.bl (itemsB (walkB as.length ts) H x)) H'
theorem ok_is_walk (T : Top K mg)
    (G_check_site : FnOk P w K mg base CX0 6 T.a_check_site T.d_check_site ["site"] (sp_check_site K))
    (G__is_linked : FnOk P w K mg base CX0 1 T.a__is_linked T.d__is_linked ["site", "pages"] (sp__is_linked K))
    (G_are_pages : FnOk P w K mg base CX0 3 T.a_are_pages T.d_are_pages ["value", "many"] (sp_are_pages K)) :
    FnOk P w K mg base CX0 7 T.a_is_walk T.d_is_walk ["site", "value"] (sp_is_walk K) := by
  refine T.F_is_walk.ok sc_is_walk (fun vs H Q E h => ?_) (fun cdv A outer s H vs Q E hr h => ?_)
  · obtain ⟨L, as, ts, x, rfl, _⟩ := h
    rfl
  · obtain ⟨L, as, ts, x, rfl, N, hk, q⟩ := h
    have nd := sc_is_walk.nd
    have hu := hu_of hr
    have hU := units_of hr
    have hu64 := u64_of hr
    refine ⟨_, (pss_cons (ps_expr (pe_call G_check_site (hr.mono (by decide)) (by rfl) T.g_check_site T.F_check_site.kp T.b_check_site .nil pass0 (pa_cons (pv 0) pa_nil)))
      (pss_cons (ps_if ((pw_or (pt_not (pt_val (pe_call G_are_pages (hr.mono (by decide)) (by rfl) T.g_are_pages T.F_are_pages.kp T.b_are_pages .nil pass0 (pa_cons (pv 1) (pa_cons (pe_callB call_len_seq (by rfl) T.n_len (by decide +kernel) (pa_cons (pv 0) pa_nil)) pa_nil))))) (pw_or1 (pt_not (pt_chain op_le op_le pe_int (pe_callB call_len_seq (by rfl) T.n_len (by decide +kernel) (pa_cons (pv 1) pa_nil)) (pe_op op_add (pe_glob (v := .int (60)) (by rfl) T.g_MOST_STEPS ⟨_, rfl⟩) pe_int)))))).pt (pss_one (ps_ret pe_bl)) pss_nil)
      (pss_one (ps_ret (pe_call G__is_linked (hr.mono (by decide)) (by rfl) T.g__is_linked T.F__is_linked.kp T.b__is_linked .nil pass0 (pa_cons (pv 0) (pa_cons (pv 1) pa_nil))))))), ?_⟩
    refine ⟨.ref L, rfl, L, as, ts, rfl, N, fun H1 s1 => ?_⟩
    have N1 := N.same s1
    have ok1 := okv_same s1 hk
    have hal : (as.map V.ref).length = as.length := List.length_map _
    refine ⟨x, rfl, .ref L, rfl, L, _, rfl, .inl (.inl (.inl N1.net)), x, _, rfl, ok1, fun H2 s2 => ⟨_, rfl, ?_⟩⟩
    rw [hal, itemsB_same s1 hk.1]
    have s12 := s1.trans s2
    have no : ∀ G, Same H G → itemsB (walkB as.length ts) H x = false → Q (.bl false) G := fun G s e => by
      rw [← e]
      exact q G s
    by_cases c : itemsB (pgsB as.length) H x = true
    case neg =>
      rw [eq_false_of_ne_true c]
      show if (!false) = true then _ else _
      refine iteT (iteT (no _ s12 ?_))
      by_cases hL : isLB H x = true
      · obtain ⟨a, xs, rfl, ea⟩ := isLB_of hL
        rw [itemsB_lst ea] at c ⊢
        unfold walkB
        rw [eq_false_of_ne_true c, Bool.false_and]
      · exact itemsB_no hL
    rw [c]
    show if (!true) = true then _ else _
    refine iteF ?_
    by_cases hL : isLB H x = true
    case neg =>
      rw [itemsB_no hL] at c
      cases c
    obtain ⟨a, xs, rfl, ea⟩ := isLB_of hL
    rw [itemsB_lst ea] at c q
    have ex := nums_of (show xs.all (inRg 0 ((as.length : Int) - 1)) = true from c)
    have en : (nums xs).length = xs.length := by unfold nums; rw [List.length_map]
    have ea2 := s12 _ _ ea
    refine ⟨.ref a, rfl, a, xs, rfl, .inl (.inl (.inl ea2)), _, _, rfl, rfl, _, rfl, ite2 (fun d => ?_) (fun d => ?_)⟩
    case refine_2 =>
      refine ⟨_, rfl, ?_⟩
      show if (!false) = true then _ else _
      refine iteT ?_
      have h1 := q _ s12
      unfold walkB at h1
      rw [decide_eq_false (show ¬ 1 ≤ xs.length from fun w => d (decide_eq_true (by omega))), Bool.false_and, Bool.and_false] at h1
      exact h1
    have d1 : 1 ≤ xs.length := by have := of_decide_eq_true d; omega
    refine ⟨_, _, rfl, rfl, _, _, rfl, rfl, _, rfl, ?_⟩
    by_cases f : xs.length ≤ 61
    case neg =>
      rw [decide_eq_false (show ¬ ((xs.length : Nat) : Int) ≤ 60 + 1 by omega)]
      show if (!false) = true then _ else _
      refine iteT ?_
      have h1 := q _ s12
      unfold walkB at h1
      rw [decide_eq_false f, Bool.false_and, Bool.and_false, Bool.and_false] at h1
      exact h1
    rw [decide_eq_true (show ((xs.length : Nat) : Int) ≤ 60 + 1 by omega)]
    show if (!true) = true then _ else _
    refine iteF ?_
    have rg : ∀ z ∈ nums xs, 0 ≤ z ∧ z < (as.length : Int) := fun z hz => by
      have h1 : xs.all (inRg 0 ((as.length : Int) - 1)) = true := c
      rw [← ex] at h1
      have h2 : (decide (0 ≤ z) && decide (z ≤ (as.length : Int) - 1)) = true := List.all_eq_true.mp h1 (.int z) (List.mem_map.mpr ⟨z, hz, rfl⟩)
      rw [Bool.and_eq_true] at h2
      have h4 := of_decide_eq_true h2.1
      have h5 := of_decide_eq_true h2.2
      omega
    refine ⟨.ref L, rfl, .ref a, rfl, L, a, as, ts, nums xs, rfl, N1.same s2, by rw [ex]; exact ea2, by omega, rg, fun H3 s3 => ?_⟩
    have h1 := q _ (s12.trans s3)
    unfold walkB at h1
    rw [c, decide_eq_true d1, decide_eq_true f, Bool.true_and, Bool.true_and, Bool.true_and] at h1
    exact h1
def sp_are_different_pages (K : PySem.W.Frag) : Sp := fun vs H Q _ => ∃ x m, vs = [x, .int m] ∧ OkV H x ∧ ∀ H', Same H H' → Q (.bl (itemsB (difB m) H x)) H'
theorem ok_are_different_pages (T : Top K mg)
    (G_are_pages : FnOk P w K mg base CX0 3 T.a_are_pages T.d_are_pages ["value", "many"] (sp_are_pages K)) :
    FnOk P w K mg base CX0 4 T.a_are_different_pages T.d_are_different_pages ["value", "many"] (sp_are_different_pages K) := by
  refine T.F_are_different_pages.ok sc_are_different_pages (fun vs H Q E h => ?_) (fun cdv A outer s H vs Q E hr h => ?_)
  · obtain ⟨x, m, rfl, _⟩ := h
    rfl
  · obtain ⟨x, m, rfl, hk, q⟩ := h
    have nd := sc_are_different_pages.nd
    have hu := hu_of hr
    have hU := units_of hr
    have hu64 := u64_of hr
    refine ⟨_, (pss_one (ps_ret (pe_and (pe_call G_are_pages (hr.mono (by decide)) (by rfl) T.g_are_pages T.F_are_pages.kp T.b_are_pages .nil pass0 (pa_cons (pv 0) (pa_cons (pv 1) pa_nil))) (pe_one (pe_cmpR op_eq (pe_callB call_lenSet (by rfl) T.n_len (by decide +kernel) (pa_cons (pe_callTy (cr_setI rfl) (by rfl) T.n_set (by decide +kernel) (pa_cons (pv 0) pa_nil)) pa_nil)) (pe_callB call_len_seq (by rfl) T.n_len (by decide +kernel) (pa_cons (pv 0) pa_nil)) (nomark _)))))), ?_⟩
    refine ⟨x, rfl, _, rfl, x, m, rfl, hk, fun H1 s1 => ⟨_, rfl, ite2 (fun c => ?_) (fun c => ?_)⟩⟩
    · by_cases hL : isLB H x = true
      · obtain ⟨a, xs, rfl, ea⟩ := isLB_of hL
        rw [itemsB_lst ea] at c q
        have ex := nums_of (show xs.all (inRg 0 (m - 1)) = true from c)
        have e1 : H1 a = some (.lst ((nums xs).map V.int)) := by
          rw [ex]
          exact s1 _ _ ea
        have hl : (nums xs).length ≤ 4000 := by
          unfold nums
          rw [List.length_map]
          exact (hk.2 a xs rfl ea).1
        refine ⟨.ref a, rfl, a, nums xs, rfl, .inl (.inl e1), hl, fun p S hp _ => ?_⟩
        refine ⟨p, S, _, rfl, upd_same, .ref a, rfl, a, _, rfl, .inl (.inl (.inl ((upd_ne (ne_of_none e1 hp)).trans e1))), rfl, ?_⟩
        show Q (.bl (decide (V.int ((met (nums xs) : Nat) : Int) = V.int ((((nums xs).map V.int).length : Nat) : Int)))) _
        rw [bl_int]
        have e2 : decide (met (nums xs) = ((nums xs).map V.int).length) = difB m xs := by
          unfold difB
          rw [c, Bool.true_and, List.length_map]
          exact decide_eq_decide.mpr (met_iff _)
        rw [e2]
        exact q _ (s1.trans (same_new hp))
      · rw [itemsB_no hL] at c
        cases c
    · have e : itemsB (difB m) H x = false := by
        by_cases hL : isLB H x = true
        · obtain ⟨a, xs, rfl, ea⟩ := isLB_of hL
          rw [itemsB_lst ea] at c ⊢
          unfold difB
          rw [eq_false_of_ne_true c, Bool.false_and]
        · exact itemsB_no hL
      rw [e] at q
      exact q H1 s1
def sp_is_trail_of (K : PySem.W.Frag) : Sp := fun vs H Q _ => ∃ (L : Addr) (as : List Addr) (ts : List (List Int)) (x : V), vs = [.ref L, x] ∧ Net H L as ts ∧ OkV H x ∧ ∀ H', Same H H' → Q (.bl (itemsB (trailB as.length ts) H x)) H'
theorem ok_is_trail_of (T : Top K mg)
    (G_check_site : FnOk P w K mg base CX0 6 T.a_check_site T.d_check_site ["site"] (sp_check_site K))
    (G__is_linked : FnOk P w K mg base CX0 1 T.a__is_linked T.d__is_linked ["site", "pages"] (sp__is_linked K))
    (G_are_different_pages : FnOk P w K mg base CX0 4 T.a_are_different_pages T.d_are_different_pages ["value", "many"] (sp_are_different_pages K)) :
    FnOk P w K mg base CX0 7 T.a_is_trail_of T.d_is_trail_of ["site", "value"] (sp_is_trail_of K) := by
  refine T.F_is_trail_of.ok sc_is_trail_of (fun vs H Q E h => ?_) (fun cdv A outer s H vs Q E hr h => ?_)
  · obtain ⟨L, as, ts, x, rfl, _⟩ := h
    rfl
  · obtain ⟨L, as, ts, x, rfl, N, hk, q⟩ := h
    have nd := sc_is_trail_of.nd
    have hu := hu_of hr
    have hU := units_of hr
    have hu64 := u64_of hr
    refine ⟨_, (pss_cons (ps_expr (pe_call G_check_site (hr.mono (by decide)) (by rfl) T.g_check_site T.F_check_site.kp T.b_check_site .nil pass0 (pa_cons (pv 0) pa_nil)))
      (pss_cons (ps_if ((pw_or (pt_not (pt_val (pe_call G_are_different_pages (hr.mono (by decide)) (by rfl) T.g_are_different_pages T.F_are_different_pages.kp T.b_are_different_pages .nil pass0 (pa_cons (pv 1) (pa_cons (pe_callB call_len_seq (by rfl) T.n_len (by decide +kernel) (pa_cons (pv 0) pa_nil)) pa_nil))))) (pw_or1 (pt_cmpR op_eq (pe_callB call_len_seq (by rfl) T.n_len (by decide +kernel) (pa_cons (pv 1) pa_nil)) pe_int (nomark _))))).pt (pss_one (ps_ret pe_bl)) pss_nil)
      (pss_one (ps_ret (pe_call G__is_linked (hr.mono (by decide)) (by rfl) T.g__is_linked T.F__is_linked.kp T.b__is_linked .nil pass0 (pa_cons (pv 0) (pa_cons (pv 1) pa_nil))))))), ?_⟩
    refine ⟨.ref L, rfl, L, as, ts, rfl, N, fun H1 s1 => ?_⟩
    have N1 := N.same s1
    have ok1 := okv_same s1 hk
    have hal : (as.map V.ref).length = as.length := List.length_map _
    refine ⟨x, rfl, .ref L, rfl, L, _, rfl, .inl (.inl (.inl N1.net)), x, _, rfl, ok1, fun H2 s2 => ⟨_, rfl, ?_⟩⟩
    rw [hal, itemsB_same s1 hk.1]
    have s12 := s1.trans s2
    have no : ∀ G, Same H G → itemsB (trailB as.length ts) H x = false → Q (.bl false) G := fun G s e => by
      rw [← e]
      exact q G s
    by_cases c : itemsB (difB as.length) H x = true
    case neg =>
      rw [eq_false_of_ne_true c]
      show if (!false) = true then _ else _
      refine iteT (iteT (no _ s12 ?_))
      by_cases hL : isLB H x = true
      · obtain ⟨a, xs, rfl, ea⟩ := isLB_of hL
        rw [itemsB_lst ea] at c ⊢
        unfold trailB
        rw [eq_false_of_ne_true c, Bool.false_and]
      · exact itemsB_no hL
    rw [c]
    show if (!true) = true then _ else _
    refine iteF ?_
    by_cases hL : isLB H x = true
    case neg =>
      rw [itemsB_no hL] at c
      cases c
    obtain ⟨a, xs, rfl, ea⟩ := isLB_of hL
    rw [itemsB_lst ea] at c q
    have cp : pgsB as.length xs = true := by
      have h1 : (pgsB as.length xs && decide (nums xs).Nodup) = true := c
      rw [Bool.and_eq_true] at h1
      exact h1.1
    have ex := nums_of (show xs.all (inRg 0 ((as.length : Int) - 1)) = true from cp)
    have en : (nums xs).length = xs.length := by unfold nums; rw [List.length_map]
    have ea2 := s12 _ _ ea
    refine ⟨.ref a, rfl, a, xs, rfl, .inl (.inl (.inl ea2)), rfl, _, rfl, ite2 (fun d => ?_) (fun d => ?_)⟩
    case refine_1 =>
      have h1 := q _ s12
      unfold trailB at h1
      have h0 : xs.length = 0 := by
        have h2 := of_decide_eq_true d
        injection h2 with h2
        omega
      rw [decide_eq_false (show ¬ 1 ≤ xs.length by omega), Bool.false_and, Bool.and_false] at h1
      exact h1
    have d1 : 1 ≤ xs.length := by
      rcases Nat.eq_zero_or_pos xs.length with w | w
      · exact absurd (decide_eq_true (by rw [w]; rfl)) d
      · exact w
    have rg : ∀ z ∈ nums xs, 0 ≤ z ∧ z < (as.length : Int) := fun z hz => by
      have h1 : xs.all (inRg 0 ((as.length : Int) - 1)) = true := cp
      rw [← ex] at h1
      have h2 : (decide (0 ≤ z) && decide (z ≤ (as.length : Int) - 1)) = true := List.all_eq_true.mp h1 (.int z) (List.mem_map.mpr ⟨z, hz, rfl⟩)
      rw [Bool.and_eq_true] at h2
      have h4 := of_decide_eq_true h2.1
      have h5 := of_decide_eq_true h2.2
      omega
    have hx4 := (hk.2 a xs rfl ea).1
    refine ⟨.ref L, rfl, .ref a, rfl, L, a, as, ts, nums xs, rfl, N1.same s2, by rw [ex]; exact ea2, by omega, rg, fun H3 s3 => ?_⟩
    have h1 := q _ (s12.trans s3)
    unfold trailB at h1
    rw [c, decide_eq_true d1, Bool.true_and, Bool.true_and] at h1
    exact h1
def sp__law_changed (K : PySem.W.Frag) : Sp := fun vs H Q _ => ∃ (p L a : Addr) (as : List Addr) (ts : List (List Int)) (l : List Int) (n : Nat), vs = [.ref p, .ref L, .ref a] ∧ Net H L as ts ∧ L ≠ p ∧ a ≠ p ∧ H a = some (.lst (l.map V.int)) ∧ 1 ≤ l.length ∧ l.length ≤ 62 ∧ (∀ z ∈ l, 0 ≤ z ∧ z < 40) ∧ Pl H p n ∧ n ≤ 900000 ∧
  ∀ H' x, But p H H' → Pl H' p (n + 10) → (∀ G, But p H' G → Gr K G x) → Q x H'
theorem ok__law_changed (T : Top K mg)
    (G__law_draw : FnOk P w K mg base CX0 1 T.a__law_draw T.d__law_draw ["_law_source_here", "_law_count"] (sp__law_draw K)) :
    FnOk P w K mg base CX0 2 T.a__law_changed T.d__law_changed ["_law_source_here", "_law_net_here", "_law_row"] (sp__law_changed K) := by
  refine T.F__law_changed.ok sc__law_changed (fun vs H Q E h => ?_) (fun cdv A outer s H vs Q E hr h => ?_)
  · obtain ⟨p, L, a, as, ts, l, n, rfl, _⟩ := h
    rfl
  · obtain ⟨p, L, a, as, ts, l, n, rfl, N, nLp, nap, ea, l1, l2, tp, hP, hn, q⟩ := h
    have nd := sc__law_changed.nd
    have hu := hu_of hr
    have hU := units_of hr
    have hu64 := u64_of hr
    refine ⟨_, (pss_cons (ps_par (i := 3) (j := 4) rfl nd rfl rfl (by decide) rfl rfl (pa_cons (pe_call G__law_draw (hr.mono (by decide)) (by rfl) T.g__law_draw T.F__law_draw.kp T.b__law_draw .nil pass0 (pa_cons (pv 0) (pa_cons (pe_callB call_len_seq (by rfl) T.n_len (by decide +kernel) (pa_cons (pv 2) pa_nil)) pa_nil))) (pa_cons (pe_callB call_len_seq (by rfl) T.n_len (by decide +kernel) (pa_cons (pv 1) pa_nil)) pa_nil)) (by rfl))
      (pss_cons (ps_set (i := 5) nd rfl (Or.inl rfl) (pe_lst (pa_cons (pv 4) (pa_cons (pe_op op_add (pv 4) pe_int) (pa_cons (pe_un un_neg pe_int) (pa_cons (pe_un un_neg pe_int) (pa_cons (pe_op op_sub pe_int (pv 4)) (pa_cons pe_bl (pa_cons pe_bl (pa_cons pe_non (pa_cons pe_str (pa_cons (pe_lst (pa_cons pe_int pa_nil)) (pa_cons (pe_op op_pow pe_int pe_int) (pa_cons (pe_ix ix_list (pv 2) (pv 3) (fun _ _ => rfl)) (pa_cons (pe_call G__law_draw (hr.mono (by decide)) (by rfl) T.g__law_draw T.F__law_draw.kp T.b__law_draw .nil pass0 (pa_cons (pv 0) (pa_cons (pv 4) pa_nil))) pa_nil)))))))))))))))
      (pss_cons (ps_set (i := 6) nd rfl (Or.inl rfl) (pe_ix ix_list (pv 5) (pe_call G__law_draw (hr.mono (by decide)) (by rfl) T.g__law_draw T.F__law_draw.kp T.b__law_draw .nil pass0 (pa_cons (pv 0) (pa_cons pe_int pa_nil))) (fun _ _ => rfl)))
      (pss_cons (ps_set (i := 7) nd rfl (Or.inl rfl) (pe_lst (pa_cons (pe_op op_cat (pe_op op_cat (pe_slice sl_list (pv 2) po_none (po_some (pv 3))) (pe_lst (pa_cons (pv 6) pa_nil))) (pe_slice sl_list (pv 2) (po_some (pe_op op_add (pv 3) pe_int)) po_none)) (pa_cons (pe_op op_cat (pe_op op_cat (pe_slice sl_list (pv 2) po_none (po_some (pv 3))) (pe_lst (pa_cons (pv 6) pa_nil))) (pe_slice sl_list (pv 2) (po_some (pv 3)) po_none)) (pa_cons (pe_op op_cat (pe_slice sl_list (pv 2) po_none (po_some (pv 3))) (pe_slice sl_list (pv 2) (po_some (pe_op op_add (pv 3) pe_int)) po_none)) (pa_cons (pe_revL (pv 2)) pa_nil))))))
      (pss_cons (ps_set (i := 7) nd rfl (Or.inl rfl) (pe_op op_cat (pv 7) (pe_lst (pa_cons (pe_callTy call_tuple_of (by rfl) T.n_tuple (by decide +kernel) (pa_cons (pv 2) pa_nil)) (pa_cons (pe_lst pa_nil) (pa_cons pe_non (pa_cons pe_int (pa_cons pe_str (pa_cons pe_dnewK (pa_cons (pe_lst (pa_cons (pv 2) pa_nil)) (pa_cons (pe_slice sl_list (pe_op op_rep (pv 2) pe_int) po_none (po_some pe_int)) (pa_cons pe_bl pa_nil))))))))))))
      (pss_one (ps_ret (pe_ix ix_list (pv 7) (pe_ix ix_list (pe_lst (pa_cons pe_int (pa_cons pe_int (pa_cons pe_int (pa_cons (pe_call G__law_draw (hr.mono (by decide)) (by rfl) T.g__law_draw T.F__law_draw.kp T.b__law_draw .nil pass0 (pa_cons (pv 0) (pa_cons pe_int pa_nil))) pa_nil))))) (pe_call G__law_draw (hr.mono (by decide)) (by rfl) T.g__law_draw T.F__law_draw.kp T.b__law_draw .nil pass0 (pa_cons (pv 0) (pa_cons pe_int pa_nil))) (fun _ _ => rfl)) (fun _ _ => rfl))))))))), ?_⟩
    have sz : ∀ m, m ≤ 100000 → m ≤ sizeLine := fun m h => Nat.le_trans h (by decide)
    have hal : (as.map V.ref).length = as.length := List.length_map _
    have h12 := N.high
    have h1l := N.low
    have er : ∀ G, But p H G → G a = some (.lst (l.map V.int)) := fun G b => b _ _ nap ea
    refine ⟨.ref p, rfl, .ref a, rfl, a, _, rfl, .inl (.inl (.inl ea)), p, _, n, rfl, hP, by omega, (by rw [List.length_map]; omega), (by rw [List.length_map]; omega), fun H1 at1 bb1 P1 a0 a1 => ?_⟩
    rw [List.length_map] at a1
    obtain ⟨j, rfl⟩ := Int.eq_ofNat_of_zero_le a0
    have hj : j < l.length := by omega
    have bL := bb1 _ _ nLp N.net
    refine ⟨.ref L, rfl, L, _, rfl, .inl (.inl (.inl bL)), _, _, rfl, ?_⟩
    rw [hal]
    clear a0 a1
    -- odd ones
    refine ⟨_, rfl, _, rfl, _, _, rfl, rfl, 1, rfl, 2, rfl, _, rfl, _, _, rfl, rfl, (by show 1 ≤ sizeLine; decide), fun z fz => ?_⟩
    have nz := ne_of_pl P1 fz
    have s2 := same_new (o := .lst [.int 0]) fz
    have ez : upd H1 z (.lst [.int 0]) z = some (.lst [.int 0]) := upd_same
    have P2 := P1.same s2
    have bb2 := bb1.trans (.of_same s2)
    generalize upd H1 z (.lst [.int 0]) = H2 at s2 ez P2 bb2 ⊢
    obtain ⟨w, hw⟩ : ∃ w, l[j]? = some w := ⟨_, List.getElem?_eq_getElem hj⟩
    have aw : atI (l.map V.int) (j : Int) = some (.int w) := atI_nat (by rw [List.getElem?_map, hw]; rfl)
    have wr := tp w (List.mem_of_getElem? hw)
    refine ⟨10, 30, rfl, rfl, pow_ok 30 (by decide) (by decide), .ref a, rfl, _, rfl, a, _, _, _, rfl, rfl, .inl (.inl (er _ bb2)), aw, .ref p, rfl, _, rfl, p, _, _, rfl, P2, by omega, by omega, by omega, fun H3 v s3 P3 v0 v1 => ?_⟩
    have bb3 := bb2.trans s3
    refine ⟨(by show 13 ≤ sizeLine; decide), fun O fO => ?_⟩
    have nO := ne_of_pl P3 fO
    have s4 := same_new (o := .lst [.int as.length, .int (as.length + 1), .int (-1), .int (-2), .int (0 - as.length), .bl true, .bl false, .non, .str "0", .ref z, .int (10 ^ (30 : Int).toNat), .int w, .int v]) fO
    have eO : upd H3 O (.lst [.int as.length, .int (as.length + 1), .int (-1), .int (-2), .int (0 - as.length), .bl true, .bl false, .non, .str "0", .ref z, .int (10 ^ (30 : Int).toNat), .int w, .int v]) O = some (.lst [.int as.length, .int (as.length + 1), .int (-1), .int (-2), .int (0 - as.length), .bl true, .bl false, .non, .str "0", .ref z, .int (10 ^ (30 : Int).toNat), .int w, .int v]) := upd_same
    have P4 := P3.same s4
    have bb4 := bb3.trans (.of_same s4)
    generalize upd H3 O (.lst [.int as.length, .int (as.length + 1), .int (-1), .int (-2), .int (0 - as.length), .bl true, .bl false, .non, .str "0", .ref z, .int (10 ^ (30 : Int).toNat), .int w, .int v]) = H4 at s4 eO P4 bb4 ⊢
    have gq0 : ∀ x ∈ ([.int as.length, .int (as.length + 1), .int (-1), .int (-2), .int (0 - as.length), .bl true, .bl false, .non, .str "0", .ref z, .int (10 ^ (30 : Int).toNat), .int w, .int v] : List V), ∀ G, But p H4 G → Gq K G x := by
      intro x hx G b
      rcases List.mem_cons.mp hx with rfl | hx
      · exact gq_int (by omega)
      rcases List.mem_cons.mp hx with rfl | hx
      · exact gq_int (by omega)
      rcases List.mem_cons.mp hx with rfl | hx
      · exact gq_int (by decide)
      rcases List.mem_cons.mp hx with rfl | hx
      · exact gq_int (by decide)
      rcases List.mem_cons.mp hx with rfl | hx
      · exact gq_int (by omega)
      rcases List.mem_cons.mp hx with rfl | hx
      · exact gq_bl _
      rcases List.mem_cons.mp hx with rfl | hx
      · exact gq_bl _
      rcases List.mem_cons.mp hx with rfl | hx
      · exact gq_non
      rcases List.mem_cons.mp hx with rfl | hx
      · exact gq_str (by simp only [PyData.canLay0]; decide +kernel) (by simp only [PyData.leavesShort]; decide +kernel) (by decide +kernel)
      rcases List.mem_cons.mp hx with rfl | hx
      · exact gq_nums (l := [0]) (b _ _ nz (s4 _ _ (s3 _ _ nz ez))) (fun z hz => by rw [List.mem_singleton.mp hz]; decide) (by decide)
      rcases List.mem_cons.mp hx with rfl | hx
      · rw [pw30]
        exact gq_int (by decide)
      rcases List.mem_cons.mp hx with rfl | hx
      · exact gq_int (by omega)
      · rw [List.mem_singleton.mp hx]
        exact gq_int (by omega)
    have hl13 : ([.int as.length, .int (as.length + 1), .int (-1), .int (-2), .int (0 - as.length), .bl true, .bl false, .non, .str "0", .ref z, .int (10 ^ (30 : Int).toNat), .int w, .int v] : List V).length = 13 := rfl
    generalize ([.int as.length, .int (as.length + 1), .int (-1), .int (-2), .int (0 - as.length), .bl true, .bl false, .non, .str "0", .ref z, .int (10 ^ (30 : Int).toNat), .int w, .int v] : List V) = od at gq0 eO hl13 ⊢
    refine ⟨.ref O, rfl, .ref p, rfl, p, 13, _, rfl, P4, by omega, by decide, by decide, fun H5 v2 s5 P5 v3 v4 => ?_⟩
    have bb5 := bb4.trans s5
    obtain ⟨x, hx, hxm⟩ := at_ex (xs := od) v3 (by omega)
    refine ⟨O, od, v2, x, rfl, rfl, .inl (.inl (s5 _ _ nO eO)), hx, ?_⟩
    have gx : ∀ G, But p H5 G → Gq K G x := fun G b => gq0 x hxm G (s5.trans b)
    have gt : ∀ {w : List Int}, (∀ z ∈ w, z ∈ l) → ∀ G, ∀ y ∈ w.map V.int, Gq K G y := fun {w} hw G y hy => by
      obtain ⟨z, hz, rfl⟩ := List.mem_map.mp hy
      exact gq_int (by have := tp z (hw z hz); omega)
    clear gq0 hl13 hx hxm v3 v4
    have ej : ((j : Nat) : Int) + 1 = ((j + 1 : Nat) : Int) := by omega
    refine ⟨_, rfl, _, rfl, _, rfl, a, _, rfl, .inl (.inl (er _ bb5)), fun c1 f1 => ?_⟩
    rw [cut_to, ← List.map_take]
    have nc1 := ne_of_pl P5 f1
    have s6 := same_new (o := .lst ((l.take j).map V.int)) f1
    have ec1 : upd H5 c1 (.lst ((l.take j).map V.int)) c1 = some (.lst ((l.take j).map V.int)) := upd_same
    have P6 := P5.same s6
    have bb6 := bb5.trans (.of_same s6)
    generalize upd H5 c1 (.lst ((l.take j).map V.int)) = H6 at s6 ec1 P6 bb6 ⊢
    refine ⟨_, rfl, (by show 1 ≤ sizeLine; decide), fun c2 f2 => ?_⟩
    have nc2 := ne_of_pl P6 f2
    have s7 := same_new (o := .lst [x]) f2
    have ec2 : upd H6 c2 (.lst [x]) c2 = some (.lst [x]) := upd_same
    have P7 := P6.same s7
    have bb7 := bb6.trans (.of_same s7)
    generalize upd H6 c2 (.lst [x]) = H7 at s7 ec2 P7 bb7 ⊢
    refine ⟨c1, c2, _, _, rfl, rfl, (s7 _ _ ec1), ec2, (sz _ (by simp only [List.length_append, List.length_map, List.length_take, List.length_drop, List.length_cons, List.length_nil]; omega)), fun c3 f3 => ?_⟩
    have nc3 := ne_of_pl P7 f3
    have s8 := same_new (o := .lst ((l.take j).map V.int ++ [x])) f3
    have ec3 : upd H7 c3 (.lst ((l.take j).map V.int ++ [x])) c3 = some (.lst ((l.take j).map V.int ++ [x])) := upd_same
    have P8 := P7.same s8
    have bb8 := bb7.trans (.of_same s8)
    generalize upd H7 c3 (.lst ((l.take j).map V.int ++ [x])) = H8 at s8 ec3 P8 bb8 ⊢
    refine ⟨_, rfl, _, rfl, _, _, rfl, rfl, _, rfl, a, _, rfl, .inl (.inl (er _ bb8)), fun c4 f4 => ?_⟩
    rw [ej, cut_from, ← List.map_drop]
    have nc4 := ne_of_pl P8 f4
    have s9 := same_new (o := .lst ((l.drop (j + 1)).map V.int)) f4
    have ec4 : upd H8 c4 (.lst ((l.drop (j + 1)).map V.int)) c4 = some (.lst ((l.drop (j + 1)).map V.int)) := upd_same
    have P9 := P8.same s9
    have bb9 := bb8.trans (.of_same s9)
    generalize upd H8 c4 (.lst ((l.drop (j + 1)).map V.int)) = H9 at s9 ec4 P9 bb9 ⊢
    refine ⟨c3, c4, _, _, rfl, rfl, (s9 _ _ ec3), ec4, (sz _ (by simp only [List.length_append, List.length_map, List.length_take, List.length_drop, List.length_cons, List.length_nil]; omega)), fun x1 fx1 => ?_⟩
    have nx1 := ne_of_pl P9 fx1
    have s10 := same_new (o := .lst ((l.take j).map V.int ++ [x] ++ (l.drop (j + 1)).map V.int)) fx1
    have ex1 : upd H9 x1 (.lst ((l.take j).map V.int ++ [x] ++ (l.drop (j + 1)).map V.int)) x1 = some (.lst ((l.take j).map V.int ++ [x] ++ (l.drop (j + 1)).map V.int)) := upd_same
    have P10 := P9.same s10
    have bb10 := bb9.trans (.of_same s10)
    generalize upd H9 x1 (.lst ((l.take j).map V.int ++ [x] ++ (l.drop (j + 1)).map V.int)) = H10 at s10 ex1 P10 bb10 ⊢
    have g1 : ∀ G, But p H10 G → Gr K G (.ref x1) := fun G b => gr_itemsQ (b _ _ nx1 ex1) (by simp only [List.length_append, List.length_map, List.length_take, List.length_drop, List.length_cons, List.length_nil]; omega) fun y hy => by
      rcases List.mem_append.mp hy with hy | hy
      · rcases List.mem_append.mp hy with hy | hy
        · exact gt (fun z hz => List.mem_of_mem_take hz) G y hy
        · rw [List.mem_singleton.mp hy]
          exact gx G (But.trans (But.trans (But.trans (But.trans (But.trans (But.trans (.refl p H5) (.of_same s6)) (.of_same s7)) (.of_same s8)) (.of_same s9)) (.of_same s10)) b)
      · exact gt (fun z hz => List.mem_of_mem_drop hz) G y hy
    refine ⟨_, rfl, _, rfl, _, rfl, a, _, rfl, .inl (.inl (er _ bb10)), fun d1 f5 => ?_⟩
    rw [cut_to, ← List.map_take]
    have nd1 := ne_of_pl P10 f5
    have s11 := same_new (o := .lst ((l.take j).map V.int)) f5
    have ed1 : upd H10 d1 (.lst ((l.take j).map V.int)) d1 = some (.lst ((l.take j).map V.int)) := upd_same
    have P11 := P10.same s11
    have bb11 := bb10.trans (.of_same s11)
    generalize upd H10 d1 (.lst ((l.take j).map V.int)) = H11 at s11 ed1 P11 bb11 ⊢
    refine ⟨_, rfl, (by show 1 ≤ sizeLine; decide), fun d2 f6 => ?_⟩
    have nd2 := ne_of_pl P11 f6
    have s12 := same_new (o := .lst [x]) f6
    have ed2 : upd H11 d2 (.lst [x]) d2 = some (.lst [x]) := upd_same
    have P12 := P11.same s12
    have bb12 := bb11.trans (.of_same s12)
    generalize upd H11 d2 (.lst [x]) = H12 at s12 ed2 P12 bb12 ⊢
    refine ⟨d1, d2, _, _, rfl, rfl, (s12 _ _ ed1), ed2, (sz _ (by simp only [List.length_append, List.length_map, List.length_take, List.length_drop, List.length_cons, List.length_nil]; omega)), fun d3 f7 => ?_⟩
    have nd3 := ne_of_pl P12 f7
    have s13 := same_new (o := .lst ((l.take j).map V.int ++ [x])) f7
    have ed3 : upd H12 d3 (.lst ((l.take j).map V.int ++ [x])) d3 = some (.lst ((l.take j).map V.int ++ [x])) := upd_same
    have P13 := P12.same s13
    have bb13 := bb12.trans (.of_same s13)
    generalize upd H12 d3 (.lst ((l.take j).map V.int ++ [x])) = H13 at s13 ed3 P13 bb13 ⊢
    refine ⟨_, rfl, _, rfl, _, rfl, a, _, rfl, .inl (.inl (er _ bb13)), fun d4 f8 => ?_⟩
    rw [cut_from, ← List.map_drop]
    have nd4 := ne_of_pl P13 f8
    have s14 := same_new (o := .lst ((l.drop j).map V.int)) f8
    have ed4 : upd H13 d4 (.lst ((l.drop j).map V.int)) d4 = some (.lst ((l.drop j).map V.int)) := upd_same
    have P14 := P13.same s14
    have bb14 := bb13.trans (.of_same s14)
    generalize upd H13 d4 (.lst ((l.drop j).map V.int)) = H14 at s14 ed4 P14 bb14 ⊢
    refine ⟨d3, d4, _, _, rfl, rfl, (s14 _ _ ed3), ed4, (sz _ (by simp only [List.length_append, List.length_map, List.length_take, List.length_drop, List.length_cons, List.length_nil]; omega)), fun x2 fx2 => ?_⟩
    have nx2 := ne_of_pl P14 fx2
    have s15 := same_new (o := .lst ((l.take j).map V.int ++ [x] ++ (l.drop j).map V.int)) fx2
    have ex2 : upd H14 x2 (.lst ((l.take j).map V.int ++ [x] ++ (l.drop j).map V.int)) x2 = some (.lst ((l.take j).map V.int ++ [x] ++ (l.drop j).map V.int)) := upd_same
    have P15 := P14.same s15
    have bb15 := bb14.trans (.of_same s15)
    generalize upd H14 x2 (.lst ((l.take j).map V.int ++ [x] ++ (l.drop j).map V.int)) = H15 at s15 ex2 P15 bb15 ⊢
    have g2 : ∀ G, But p H15 G → Gr K G (.ref x2) := fun G b => gr_itemsQ (b _ _ nx2 ex2) (by simp only [List.length_append, List.length_map, List.length_take, List.length_drop, List.length_cons, List.length_nil]; omega) fun y hy => by
      rcases List.mem_append.mp hy with hy | hy
      · rcases List.mem_append.mp hy with hy | hy
        · exact gt (fun z hz => List.mem_of_mem_take hz) G y hy
        · rw [List.mem_singleton.mp hy]
          exact gx G (But.trans (But.trans (But.trans (But.trans (But.trans (But.trans (But.trans (But.trans (But.trans (But.trans (But.trans (.refl p H5) (.of_same s6)) (.of_same s7)) (.of_same s8)) (.of_same s9)) (.of_same s10)) (.of_same s11)) (.of_same s12)) (.of_same s13)) (.of_same s14)) (.of_same s15)) b)
      · exact gt (fun z hz => List.mem_of_mem_drop hz) G y hy
    refine ⟨_, rfl, _, rfl, _, rfl, a, _, rfl, .inl (.inl (er _ bb15)), fun k1 f9 => ?_⟩
    rw [cut_to, ← List.map_take]
    have nk1 := ne_of_pl P15 f9
    have s16 := same_new (o := .lst ((l.take j).map V.int)) f9
    have ek1 : upd H15 k1 (.lst ((l.take j).map V.int)) k1 = some (.lst ((l.take j).map V.int)) := upd_same
    have P16 := P15.same s16
    have bb16 := bb15.trans (.of_same s16)
    generalize upd H15 k1 (.lst ((l.take j).map V.int)) = H16 at s16 ek1 P16 bb16 ⊢
    refine ⟨_, rfl, _, rfl, _, _, rfl, rfl, _, rfl, a, _, rfl, .inl (.inl (er _ bb16)), fun k2 f10 => ?_⟩
    rw [ej, cut_from, ← List.map_drop]
    have nk2 := ne_of_pl P16 f10
    have s17 := same_new (o := .lst ((l.drop (j + 1)).map V.int)) f10
    have ek2 : upd H16 k2 (.lst ((l.drop (j + 1)).map V.int)) k2 = some (.lst ((l.drop (j + 1)).map V.int)) := upd_same
    have P17 := P16.same s17
    have bb17 := bb16.trans (.of_same s17)
    generalize upd H16 k2 (.lst ((l.drop (j + 1)).map V.int)) = H17 at s17 ek2 P17 bb17 ⊢
    refine ⟨k1, k2, _, _, rfl, rfl, (s17 _ _ ek1), ek2, (sz _ (by simp only [List.length_append, List.length_map, List.length_take, List.length_drop, List.length_cons, List.length_nil]; omega)), fun x3 fx3 => ?_⟩
    have nx3 := ne_of_pl P17 fx3
    have s18 := same_new (o := .lst ((l.take j).map V.int ++ (l.drop (j + 1)).map V.int)) fx3
    have ex3 : upd H17 x3 (.lst ((l.take j).map V.int ++ (l.drop (j + 1)).map V.int)) x3 = some (.lst ((l.take j).map V.int ++ (l.drop (j + 1)).map V.int)) := upd_same
    have P18 := P17.same s18
    have bb18 := bb17.trans (.of_same s18)
    generalize upd H17 x3 (.lst ((l.take j).map V.int ++ (l.drop (j + 1)).map V.int)) = H18 at s18 ex3 P18 bb18 ⊢
    have g3 : ∀ G, But p H18 G → Gr K G (.ref x3) := fun G b => gr_itemsQ (b _ _ nx3 ex3) (by simp only [List.length_append, List.length_map, List.length_take, List.length_drop, List.length_cons, List.length_nil]; omega) fun y hy => by
      rcases List.mem_append.mp hy with hy | hy
      · exact gt (fun z hz => List.mem_of_mem_take hz) G y hy
      · exact gt (fun z hz => List.mem_of_mem_drop hz) G y hy
    refine ⟨.ref a, rfl, a, _, rfl, .inl (.inl (er _ bb18)), fun x4 fx4 => ?_⟩
    rw [← List.map_reverse]
    have nx4 := ne_of_pl P18 fx4
    have s19 := same_new (o := .lst (l.reverse.map V.int)) fx4
    have ex4 : upd H18 x4 (.lst (l.reverse.map V.int)) x4 = some (.lst (l.reverse.map V.int)) := upd_same
    have P19 := P18.same s19
    have bb19 := bb18.trans (.of_same s19)
    generalize upd H18 x4 (.lst (l.reverse.map V.int)) = H19 at s19 ex4 P19 bb19 ⊢
    have g4 : ∀ G, But p H19 G → Gr K G (.ref x4) := fun G b => gr_nums (b _ _ nx4 ex4) (fun z hz => by have := tp z (List.mem_reverse.mp hz); omega) (by rw [List.length_reverse]; omega)
    refine ⟨(by show 4 ≤ sizeLine; decide), fun M1 fM => ?_⟩
    have nM1 := ne_of_pl P19 fM
    have s20 := same_new (o := .lst [.ref x1, .ref x2, .ref x3, .ref x4]) fM
    have eM1 : upd H19 M1 (.lst [.ref x1, .ref x2, .ref x3, .ref x4]) M1 = some (.lst [.ref x1, .ref x2, .ref x3, .ref x4]) := upd_same
    have P20 := P19.same s20
    have bb20 := bb19.trans (.of_same s20)
    generalize upd H19 M1 (.lst [.ref x1, .ref x2, .ref x3, .ref x4]) = H20 at s20 eM1 P20 bb20 ⊢
    refine ⟨_, rfl, .ref a, rfl, a, _, rfl, .inl ⟨.inl (.inl (er _ bb20)), fun y1 t1 => ?_⟩⟩
    have ny1 := ne_of_pl P20 t1
    have s21 := same_new (o := .tup (l.map V.int)) t1
    have ey1 : upd H20 y1 (.tup (l.map V.int)) y1 = some (.tup (l.map V.int)) := upd_same
    have P21 := P20.same s21
    have bb21 := bb20.trans (.of_same s21)
    generalize upd H20 y1 (.tup (l.map V.int)) = H21 at s21 ey1 P21 bb21 ⊢
    have h1 : ∀ G, But p H21 G → Gr K G (.ref y1) := fun G b => gr_tup (b _ _ ny1 ey1) (fun z hz => by have := tp z hz; omega) (by omega)
    refine ⟨Nat.zero_le _, fun y2 t2 => ?_⟩
    have ny2 := ne_of_pl P21 t2
    have s22 := same_new (o := .lst []) t2
    have ey2 : upd H21 y2 (.lst []) y2 = some (.lst []) := upd_same
    have P22 := P21.same s22
    have bb22 := bb21.trans (.of_same s22)
    generalize upd H21 y2 (.lst []) = H22 at s22 ey2 P22 bb22 ⊢
    have h2 : ∀ G, But p H22 G → Gr K G (.ref y2) := fun G b => gr_items (b _ _ ny2 ey2) (Nat.zero_le _) fun y hy => nomatch hy
    refine fun y3 t3 => ?_
    have ny3 := ne_of_pl P22 t3
    have s23 := same_new (o := .dK []) t3
    have ey3 : upd H22 y3 (.dK []) y3 = some (.dK []) := upd_same
    have P23 := P22.same s23
    have bb23 := bb22.trans (.of_same s23)
    generalize upd H22 y3 (.dK []) = H23 at s23 ey3 P23 bb23 ⊢
    have h3 : ∀ G, But p H23 G → Gr K G (.ref y3) := fun G b => gr_dict (b _ _ ny3 ey3)
    refine ⟨_, rfl, (by show 1 ≤ sizeLine; decide), fun y4 t4 => ?_⟩
    have ny4 := ne_of_pl P23 t4
    have s24 := same_new (o := .lst [.ref a]) t4
    have ey4 : upd H23 y4 (.lst [.ref a]) y4 = some (.lst [.ref a]) := upd_same
    have P24 := P23.same s24
    have bb24 := bb23.trans (.of_same s24)
    generalize upd H23 y4 (.lst [.ref a]) = H24 at s24 ey4 P24 bb24 ⊢
    have h4 : ∀ G, But p H24 G → Gr K G (.ref y4) := fun G b => gr_one (b _ _ ny4 ey4) (er _ (bb24.trans b)) (fun z hz => by have := tp z hz; omega) (by omega)
    refine ⟨.ref a, rfl, a, 400, _, rfl, rfl, (er _ bb24), by decide, by decide, sz _ (by rw [List.length_map]; show l.length * 400 ≤ 100000; omega), fun y5 t5 => ?_⟩
    have e400 : (List.replicate (Int.toNat 400) (l.map V.int)).flatten = (List.replicate (Int.toNat 400) l).flatten.map V.int := by
      rw [List.map_flatten, List.map_replicate]
    rw [e400]
    have ny5 := ne_of_pl P24 t5
    have s25 := same_new (o := .lst ((List.replicate (Int.toNat 400) l).flatten.map V.int)) t5
    have ey5 : upd H24 y5 (.lst ((List.replicate (Int.toNat 400) l).flatten.map V.int)) y5 = some (.lst ((List.replicate (Int.toNat 400) l).flatten.map V.int)) := upd_same
    have P25 := P24.same s25
    have bb25 := bb24.trans (.of_same s25)
    generalize upd H24 y5 (.lst ((List.replicate (Int.toNat 400) l).flatten.map V.int)) = H25 at s25 ey5 P25 bb25 ⊢
    refine ⟨_, rfl, y5, _, rfl, .inl (.inl ey5), fun y6 t6 => ?_⟩
    have ec4 : cutV ((List.replicate (Int.toNat 400) l).flatten.map V.int) none (some 400) = ((List.replicate (Int.toNat 400) l).flatten.take 400).map V.int := (cut_to _ 400).trans (by rw [List.map_take])
    rw [ec4]
    have ny6 := ne_of_pl P25 t6
    have s26 := same_new (o := .lst (((List.replicate (Int.toNat 400) l).flatten.take 400).map V.int)) t6
    have ey6 : upd H25 y6 (.lst (((List.replicate (Int.toNat 400) l).flatten.take 400).map V.int)) y6 = some (.lst (((List.replicate (Int.toNat 400) l).flatten.take 400).map V.int)) := upd_same
    have P26 := P25.same s26
    have bb26 := bb25.trans (.of_same s26)
    generalize upd H25 y6 (.lst (((List.replicate (Int.toNat 400) l).flatten.take 400).map V.int)) = H26 at s26 ey6 P26 bb26 ⊢
    have h6 : ∀ G, But p H26 G → Gr K G (.ref y6) := fun G b => gr_nums (b _ _ ny6 ey6) (fun z hz => by have := tp z (mem_rep (List.mem_of_mem_take hz)); omega) (by rw [List.length_take]; omega)
    refine ⟨(by show 9 ≤ sizeLine; decide), fun M2 fM2 => ?_⟩
    have nM2 := ne_of_pl P26 fM2
    have s27 := same_new (o := .lst [.ref y1, .ref y2, .non, .int 0, .str "", .ref y3, .ref y4, .ref y6, .bl true]) fM2
    have eM2 : upd H26 M2 (.lst [.ref y1, .ref y2, .non, .int 0, .str "", .ref y3, .ref y4, .ref y6, .bl true]) M2 = some (.lst [.ref y1, .ref y2, .non, .int 0, .str "", .ref y3, .ref y4, .ref y6, .bl true]) := upd_same
    have P27 := P26.same s27
    have bb27 := bb26.trans (.of_same s27)
    generalize upd H26 M2 (.lst [.ref y1, .ref y2, .non, .int 0, .str "", .ref y3, .ref y4, .ref y6, .bl true]) = H27 at s27 eM2 P27 bb27 ⊢
    refine ⟨M1, M2, _, _, rfl, rfl, (s27 _ _ (s26 _ _ (s25 _ _ (s24 _ _ (s23 _ _ (s22 _ _ (s21 _ _ eM1))))))), eM2, (by show 13 ≤ sizeLine; decide), fun M3 fM3 => ?_⟩
    have nM3 := ne_of_pl P27 fM3
    have s28 := same_new (o := .lst ([V.ref x1, .ref x2, .ref x3, .ref x4] ++ [.ref y1, .ref y2, .non, .int 0, .str "", .ref y3, .ref y4, .ref y6, .bl true] : List V)) fM3
    have eM3 : upd H27 M3 (.lst ([V.ref x1, .ref x2, .ref x3, .ref x4] ++ [.ref y1, .ref y2, .non, .int 0, .str "", .ref y3, .ref y4, .ref y6, .bl true] : List V)) M3 = some (.lst ([V.ref x1, .ref x2, .ref x3, .ref x4] ++ [.ref y1, .ref y2, .non, .int 0, .str "", .ref y3, .ref y4, .ref y6, .bl true] : List V)) := upd_same
    have P28 := P27.same s28
    have bb28 := bb27.trans (.of_same s28)
    generalize upd H27 M3 (.lst ([V.ref x1, .ref x2, .ref x3, .ref x4] ++ [.ref y1, .ref y2, .non, .int 0, .str "", .ref y3, .ref y4, .ref y6, .bl true] : List V)) = H28 at s28 eM3 P28 bb28 ⊢
    have g13 : ∀ v ∈ ([V.ref x1, .ref x2, .ref x3, .ref x4] ++ [.ref y1, .ref y2, .non, .int 0, .str "", .ref y3, .ref y4, .ref y6, .bl true] : List V), ∀ G, But p H28 G → Gr K G v := by
      intro v hv
      rcases List.mem_append.mp hv with hv | hv
      · rcases List.mem_cons.mp hv with rfl | hv
        · exact fun G b => g1 G (But.trans (But.trans (But.trans (But.trans (But.trans (But.trans (But.trans (But.trans (But.trans (But.trans (But.trans (But.trans (But.trans (But.trans (But.trans (But.trans (But.trans (But.trans (But.trans (.refl p H10) (.of_same s11)) (.of_same s12)) (.of_same s13)) (.of_same s14)) (.of_same s15)) (.of_same s16)) (.of_same s17)) (.of_same s18)) (.of_same s19)) (.of_same s20)) (.of_same s21)) (.of_same s22)) (.of_same s23)) (.of_same s24)) (.of_same s25)) (.of_same s26)) (.of_same s27)) (.of_same s28)) b)
        rcases List.mem_cons.mp hv with rfl | hv
        · exact fun G b => g2 G (But.trans (But.trans (But.trans (But.trans (But.trans (But.trans (But.trans (But.trans (But.trans (But.trans (But.trans (But.trans (But.trans (But.trans (.refl p H15) (.of_same s16)) (.of_same s17)) (.of_same s18)) (.of_same s19)) (.of_same s20)) (.of_same s21)) (.of_same s22)) (.of_same s23)) (.of_same s24)) (.of_same s25)) (.of_same s26)) (.of_same s27)) (.of_same s28)) b)
        rcases List.mem_cons.mp hv with rfl | hv
        · exact fun G b => g3 G (But.trans (But.trans (But.trans (But.trans (But.trans (But.trans (But.trans (But.trans (But.trans (But.trans (But.trans (.refl p H18) (.of_same s19)) (.of_same s20)) (.of_same s21)) (.of_same s22)) (.of_same s23)) (.of_same s24)) (.of_same s25)) (.of_same s26)) (.of_same s27)) (.of_same s28)) b)
        rw [List.mem_singleton.mp hv]
        exact fun G b => g4 G (But.trans (But.trans (But.trans (But.trans (But.trans (But.trans (But.trans (But.trans (But.trans (But.trans (.refl p H19) (.of_same s20)) (.of_same s21)) (.of_same s22)) (.of_same s23)) (.of_same s24)) (.of_same s25)) (.of_same s26)) (.of_same s27)) (.of_same s28)) b)
      · rcases List.mem_cons.mp hv with rfl | hv
        · exact fun G b => h1 G (But.trans (But.trans (But.trans (But.trans (But.trans (But.trans (But.trans (But.trans (.refl p H21) (.of_same s22)) (.of_same s23)) (.of_same s24)) (.of_same s25)) (.of_same s26)) (.of_same s27)) (.of_same s28)) b)
        rcases List.mem_cons.mp hv with rfl | hv
        · exact fun G b => h2 G (But.trans (But.trans (But.trans (But.trans (But.trans (But.trans (But.trans (.refl p H22) (.of_same s23)) (.of_same s24)) (.of_same s25)) (.of_same s26)) (.of_same s27)) (.of_same s28)) b)
        rcases List.mem_cons.mp hv with rfl | hv
        · exact fun G _ => gr_gi gi_non fun a xs e => nomatch e
        rcases List.mem_cons.mp hv with rfl | hv
        · exact fun G _ => gr_gi (gi_int (by decide)) fun a xs e => nomatch e
        rcases List.mem_cons.mp hv with rfl | hv
        · exact fun G _ => gr_gi (gi_str (by simp only [PyData.canLay0]; decide +kernel) (by simp only [PyData.leavesShort]; decide +kernel) (by decide +kernel)) fun a xs e => nomatch e
        rcases List.mem_cons.mp hv with rfl | hv
        · exact fun G b => h3 G (But.trans (But.trans (But.trans (But.trans (But.trans (But.trans (.refl p H23) (.of_same s24)) (.of_same s25)) (.of_same s26)) (.of_same s27)) (.of_same s28)) b)
        rcases List.mem_cons.mp hv with rfl | hv
        · exact fun G b => h4 G (But.trans (But.trans (But.trans (But.trans (But.trans (.refl p H24) (.of_same s25)) (.of_same s26)) (.of_same s27)) (.of_same s28)) b)
        rcases List.mem_cons.mp hv with rfl | hv
        · exact fun G b => h6 G (But.trans (But.trans (But.trans (.refl p H26) (.of_same s27)) (.of_same s28)) b)
        rw [List.mem_singleton.mp hv]
        exact fun G _ => gr_gi (gi_bl _) fun a xs e => nomatch e
    have hl13 : ([V.ref x1, .ref x2, .ref x3, .ref x4] ++ [.ref y1, .ref y2, .non, .int 0, .str "", .ref y3, .ref y4, .ref y6, .bl true] : List V).length = 13 := rfl
    generalize ([V.ref x1, .ref x2, .ref x3, .ref x4] ++ [.ref y1, .ref y2, .non, .int 0, .str "", .ref y3, .ref y4, .ref y6, .bl true] : List V) = sl at g13 hl13 eM3 ⊢
    refine ⟨_, rfl, .ref p, rfl, p, 13, _, rfl, P28, by omega, by decide, by decide, fun Ha i3 ba Pa r0 r1 => ?_⟩
    refine ⟨(by show 4 ≤ sizeLine; decide), fun J fJ => ?_⟩
    have nJ := ne_of_pl Pa fJ
    have sJ := same_new (o := .lst [.int 0, .int 1, .int 2, .int i3]) fJ
    have eJ : upd Ha J (.lst [.int 0, .int 1, .int 2, .int i3]) J = some (.lst [.int 0, .int 1, .int 2, .int i3]) := upd_same
    refine ⟨.ref p, rfl, p, 4, _, rfl, Pa.same sJ, by omega, by decide, by decide, fun Hb i4 bb Pb r2 r3 => ?_⟩
    obtain ⟨v2, hv2, hm2⟩ := at_ex (xs := [V.int 0, V.int 1, V.int 2, V.int i3]) r2 (by show i4 < 4; exact r3)
    obtain ⟨k4, rfl, k5, k6⟩ : ∃ k4 : Int, v2 = .int k4 ∧ 0 ≤ k4 ∧ k4 < 13 := by
      rcases List.mem_cons.mp hm2 with e | hm2
      · exact ⟨_, e, by decide, by decide⟩
      rcases List.mem_cons.mp hm2 with e | hm2
      · exact ⟨_, e, by decide, by decide⟩
      rcases List.mem_cons.mp hm2 with e | hm2
      · exact ⟨_, e, by decide, by decide⟩
      · exact ⟨_, List.mem_singleton.mp hm2, r0, r1⟩
    obtain ⟨v, hv, hvm⟩ := at_ex (xs := sl) k5 (by omega)
    have bE : But p H28 Hb := (ba.trans (.of_same sJ)).trans bb
    refine ⟨J, _, i4, _, rfl, rfl, .inl (.inl (bb _ _ nJ eJ)), hv2, M3, _, k4, v, rfl, rfl, .inl (.inl (bE _ _ nM3 eM3)), hv, ?_⟩
    exact q Hb v (bb28.trans bE) (Pb.mono (by omega)) (fun G b => g13 v hvm G (bE.trans b))
def sp__law_linked (K : PySem.W.Frag) : Sp := fun vs H Q _ => ∃ (L : Addr) (as : List Addr) (ts : List (List Int)) (x : V), vs = [.ref L, x] ∧ Net H L as ts ∧ OkV H x ∧ ∀ H', Same H H' → Q (.bl (itemsB (lawLinkB as.length ts) H x)) H'
theorem ok__law_linked (T : Top K mg) :
    FnOk P w K mg base CX0 1 T.a__law_linked T.d__law_linked ["_law_net_here", "_law_value"] (sp__law_linked K) := by
  refine T.F__law_linked.ok sc__law_linked (fun vs H Q E h => ?_) (fun cdv A outer s H vs Q E hr h => ?_)
  · obtain ⟨L, as, ts, x, rfl, _⟩ := h
    rfl
  · obtain ⟨L, as, ts, x, rfl, N, hk, q⟩ := h
    have nd := sc__law_linked.nd
    have hu := hu_of hr
    have hU := units_of hr
    have hu64 := u64_of hr
    refine ⟨_, (pss_cons (ps_if ((pw_or (pt_not (pt_val (pe_callB call_isi (by rfl) T.n_isinstance (by decide +kernel) (pa_cons (pv 1) (pa_cons (pe_bltn (v := .ty "list") (by rfl) T.n_list (by decide +kernel) rfl) pa_nil))))) (pw_or1 (pt_cmpR (op_eqNil (Nat.lt_of_succ_lt hu)) (pv 1) (pe_lst pa_nil) (nomark _))))).pt (pss_one (ps_ret pe_bl)) pss_nil)
      (pss_cons (ps_for PassesOwn.never rfl (pi_list (pv 1)) (pg_name (i := 2) nd rfl (Or.inl rfl)) (pss_one (ps_if ((pw_or (pt_val (pe_callB call_isi (by rfl) T.n_isinstance (by decide +kernel) (pa_cons (pv 2) (pa_cons (pe_bltn (v := .ty "bool") (by rfl) T.n_bool (by decide +kernel) rfl) pa_nil)))) (pw_or (pt_not (pt_val (pe_callB call_isi (by rfl) T.n_isinstance (by decide +kernel) (pa_cons (pv 2) (pa_cons (pe_bltn (v := .ty "int") (by rfl) T.n_int (by decide +kernel) rfl) pa_nil))))) (pw_or (pt_cmpR op_lt (pv 2) pe_int (nomark _)) (pw_or1 (pt_cmpR op_ge (pv 2) (pe_callB call_len_seq (by rfl) T.n_len (by decide +kernel) (pa_cons (pv 0) pa_nil)) (nomark _))))))).pt (pss_one (ps_ret pe_bl)) pss_nil)))
      (pss_one (ps_ret (pe_cmpR (op_eqD hu64) (pe_lc (own := [("_law_spot", 2), ("_law_other", 3)])  rfl nd  (pi_zip (by rfl) T.n_zip (pa_cons (pv 1) (pa_cons (pe_slice sl_list (pv 1) (po_some pe_int) po_none) pa_nil))) (blkOk_by (N := N__law_linked) (sc := defScope s__law_linked) (by decide +kernel)) (fun _ _ _ _ _ => (pg_tupK (K := K) (n := 2) rfl rfl (pgs_cons (pg_name (i := 2) nd rfl (Or.inl rfl)) (pgs_cons (pg_name (i := 3) nd rfl (Or.inl rfl)) pgs_nil)))) (fun _ _ _ _ _ => (pts_one (pt_cmpR (op_notInK (K := K) rfl) (pv 3) (pe_ix (ix_listK (K := K) rfl) (pv 0) (pv 2) (fun _ _ => rfl)) rfl))) (fun _ _ _ _ _ => (pv 2))) (pe_lst pa_nil) (nomark _)))))), ?_⟩
    refine ⟨x, rfl, x, _, _, _, _, rfl, .ty _, hk.1.ty, kit_ty (kit_list H hk.1), _, rfl, ?_⟩
    show if (!isLB H x) = true then _ else _
    by_cases hL : isLB H x = true
    case neg =>
      rw [eq_false_of_ne_true hL]
      refine iteT (iteT ?_)
      have h1 := q H (Same.refl H)
      rw [itemsB_no hL] at h1
      exact h1
    rw [hL]
    refine iteF ?_
    obtain ⟨a, xs, rfl, ea⟩ := isLB_of hL
    obtain ⟨hlen, hkn⟩ := hk.2 a xs rfl ea
    rw [itemsB_lst ea] at q
    refine ⟨.ref a, rfl, Nat.zero_le _, fun Z hZ => ?_⟩
    have sZ := same_new (o := .lst []) hZ
    refine ⟨a, Z, xs, rfl, rfl, .inl (.inl (sZ _ _ ea)), .inl (.inl upd_same), _, rfl, ite2 (fun d => ?_) (fun d => ?_)⟩
    · have h1 := q _ sZ
      unfold lawLinkB at h1
      rw [decide_eq_false (show ¬ 1 ≤ xs.length by have := of_decide_eq_true d; omega), Bool.false_and] at h1
      exact h1
    have d2 : 1 ≤ xs.length := by
      have h1 : ¬ xs.length = 0 := fun w => d (decide_eq_true w)
      omega
    have N1 := N.same sZ
    have e1 := sZ _ _ ea
    generalize upd H Z (.lst []) = H1 at sZ N1 e1 ⊢
    have bad : pgsB as.length xs = false → Q (.bl false) H1 := fun w => by
      have h1 := q _ sZ
      unfold lawLinkB at h1
      rw [w, Bool.false_and, Bool.and_false] at h1
      exact h1
    have hal : (as.map V.ref).length = as.length := List.length_map _
    have bad2 : ∀ y ∈ xs, inRg 0 ((as.length : Int) - 1) y = false → Q (.bl false) H1 := fun y hy w => bad (by
      cases e : pgsB as.length xs with
      | false => rfl
      | true =>
        have h1 := List.all_eq_true.mp (show xs.all (inRg 0 ((as.length : Int) - 1)) = true from e) y hy
        rw [w] at h1
        cases h1)
    refine ⟨.ref a, rfl, a, rfl, ⟨xs, .inl (.inl e1)⟩, for_list (xs := xs) (fun i σ G => G = H1 ∧ (∀ y ∈ xs.take i, inRg 0 ((as.length : Int) - 1) y = true) ∧ ∃ y2 y3, σ = [some (.ref L), some (.ref a), y2, y3]) ⟨rfl, fun y hy => absurd hy (by simp), _, _, rfl⟩ (fun i σ G _ hW => ?_) (fun i y σ G hi hW => ?_) (fun σ G hW => ?_)⟩
    · obtain ⟨rfl, _⟩ := hW
      exact .inl (.inl e1)
    · obtain ⟨rfl, hg, y2, y3, rfl⟩ := hW
      have hm := List.mem_of_getElem? hi
      have kn := (hkn y hm).same sZ
      refine ⟨y, rfl, y, _, _, _, _, rfl, .ty _, kn.ty, kit_ty (kit_bool G kn), _, rfl, ?_⟩
      show if isBB y = true then _ else _
      refine ite2 (fun cc => iteT (bad2 y hm ?_)) (fun cc => ?_)
      · cases y <;> first | rfl | cases cc
      refine ⟨y, rfl, y, _, _, _, _, rfl, .ty _, kn.ty, kit_ty (kit_int G kn), _, rfl, ?_⟩
      show if (!isIB y) = true then _ else _
      by_cases hI : isIB y = true
      case neg =>
        rw [eq_false_of_ne_true hI]
        refine iteT (iteT (bad2 y hm ?_))
        cases y <;> first | rfl | exact absurd rfl hI
      rw [hI]
      refine iteF ?_
      obtain ⟨z, rfl⟩ : ∃ z, y = .int z := by
        cases y with
        | int z => exact ⟨z, rfl⟩
        | bl b => exact absurd rfl cc
        | _ => cases hI
      refine ⟨_, rfl, _, _, rfl, rfl, _, rfl, ite2 (fun c1 => ?_) (fun c1 => ?_)⟩
      · refine iteT (bad2 _ hm ?_)
        have c1 := of_decide_eq_true c1
        show (decide (0 ≤ z) && decide (z ≤ (as.length : Int) - 1)) = false
        rw [decide_eq_false (by omega), Bool.false_and]
      have c1' : ¬ z < 0 := fun w => c1 (decide_eq_true w)
      refine ⟨_, rfl, .ref L, rfl, L, _, rfl, .inl (.inl (.inl N1.net)), _, _, rfl, rfl, _, rfl, ite2 (fun c2 => ?_) (fun c2 => ?_)⟩
      · refine bad2 _ hm ?_
        have c2 := of_decide_eq_true c2
        rw [hal] at c2
        show (decide (0 ≤ z) && decide (z ≤ (as.length : Int) - 1)) = false
        rw [decide_eq_false (show ¬ z ≤ (as.length : Int) - 1 by omega), Bool.and_false]
      have c2' : ¬ ((as.map V.ref).length : Int) ≤ z := fun w => c2 (decide_eq_true w)
      rw [hal] at c2'
      refine ⟨rfl, fun w hw => ?_, _, _, rfl⟩
      rw [List.take_add_one, hi] at hw
      rcases List.mem_append.mp hw with hw | hw
      · exact hg w hw
      · rw [List.mem_singleton.mp hw]
        show (decide (0 ≤ z) && decide (z ≤ (as.length : Int) - 1)) = true
        rw [decide_eq_true (by omega), decide_eq_true (by omega)]
        rfl
    obtain ⟨rfl, hg, y2, y3, rfl⟩ := hW
    rw [List.take_length] at hg
    have c : pgsB as.length xs = true := List.all_eq_true.mpr hg
    have ex := nums_of (show xs.all (inRg 0 ((as.length : Int) - 1)) = true from c)
    have en : (nums xs).length = xs.length := by unfold nums; rw [List.length_map]
    have eaG : G a = some (.lst ((nums xs).map V.int)) := by rw [ex]; exact e1
    have q2 : ∀ H', Same G H' → Q (.bl (linkedB ts (nums xs))) H' := fun H' s => by
      have h1 := q H' (sZ.trans s)
      unfold lawLinkB at h1
      rw [decide_eq_true d2, c, Bool.true_and, Bool.true_and] at h1
      exact h1
    have hz : ∀ z ∈ nums xs, 0 ≤ z ∧ z < (as.length : Int) := fun z hz => by
      have h1 : xs.all (inRg 0 ((as.length : Int) - 1)) = true := c
      rw [← ex] at h1
      have h2 : (decide (0 ≤ z) && decide (z ≤ (as.length : Int) - 1)) = true := List.all_eq_true.mp h1 (.int z) (List.mem_map.mpr ⟨z, hz, rfl⟩)
      rw [Bool.and_eq_true] at h2
      have h4 := of_decide_eq_true h2.1
      have h5 := of_decide_eq_true h2.2
      omega
    have hl : (nums xs).length ≤ 4000 := by omega
    clear hg c ex en bad bad2 q d2 d hlen hkn e1 hL hk ea
    generalize nums xs = l at eaG q2 hz hl
    refine ⟨.ref a, rfl, .ref a, rfl, 1, rfl, a, _, rfl, .inl (.inl eaG), fun c fc => ?_⟩
    have ec : cutV (l.map V.int) (some 1) none = (l.drop 1).map V.int := (cut_from _ 1).trans (by rw [List.map_drop])
    rw [ec]
    have sc := same_new (o := .lst ((l.drop 1).map V.int)) fc
    have e2 : upd G c (.lst ((l.drop 1).map V.int)) c = some (.lst ((l.drop 1).map V.int)) := upd_same
    generalize upd G c (.lst ((l.drop 1).map V.int)) = H1 at sc e2 ⊢
    have e1 := sc _ _ eaG
    have N1 := N1.same sc
    refine ⟨a, c, _, _, rfl, .inl (.inl e1), .inl (.inl e2), fun D hD => lc_zip (n := l.length - 1) (by rw [List.length_map, List.length_map, List.length_drop]; omega) (fun i G2 => Same H1 G2 ∧ ∃ w : List Int, G2 D = some (.lst (w.map V.int)) ∧ w.length ≤ i ∧ (w = [] ↔ (List.range i).all (linkAt ts l) = true)) ⟨same_new hD, [], upd_same, Nat.le_refl 0, by simp⟩ (fun i G2 hp => ⟨.inl (.inl (hp.1 _ _ e1)), .inl (.inl (hp.1 _ _ e2))⟩) (fun i x y G2 T hx hy hp hT => ?_) (fun G2 hp => ?_)⟩
    · obtain ⟨s2, w, eD, wl, iff⟩ := hp
      obtain ⟨z, hz1, rfl⟩ := at_nums hx
      obtain ⟨u, hw1, rfl⟩ := at_nums hy
      rw [List.getElem?_drop, Nat.add_comm] at hw1
      have s3 := s2.trans (same_new (o := .tup [.int z, .int u]) hT)
      have eD3 := (same_new (o := .tup [.int z, .int u]) hT) _ _ eD
      refine ⟨T, _, rfl, .inl (.inl upd_same), rfl, _, _, rfl, _, [], rfl, rfl, rfl, ?_⟩
      generalize upd G2 T (.tup [.int z, .int u]) = G3 at s3 eD3 ⊢
      have N3 := N1.same s3
      obtain ⟨z0, z1⟩ := hz z (List.mem_of_getElem? hz1)
      obtain ⟨k, rfl⟩ := Int.eq_ofNat_of_zero_le z0
      obtain ⟨r, t, h1, h2, h3, _⟩ := N3.row (j := k) (by omega)
      have ar : atI (as.map V.ref) (k : Int) = some (.ref r) := atI_nat (by rw [List.getElem?_map, h1]; rfl)
      have il : i < 4000 := by
        have := (List.getElem?_eq_some_iff.mp hw1).1
        omega
      have el : linkAt ts l i = decide (u ∈ t) := by
        unfold linkAt
        have g1 : l.getD i 0 = (k : Int) := by rw [List.getD_eq_getElem?_getD, hz1]; rfl
        have g2 : l.getD (i + 1) 0 = u := by rw [List.getD_eq_getElem?_getD, hw1]; rfl
        have g3 : ts.getD k [] = t := by rw [List.getD_eq_getElem?_getD, h2]; rfl
        rw [g1, g2, Int.toNat_natCast, g3]
      have ea1 : (List.range (i + 1)).all (linkAt ts l) = ((List.range i).all (linkAt ts l) && decide (u ∈ t)) := by
        rw [List.range_succ, List.all_append, List.all_cons, List.all_nil, Bool.and_true, el]
      refine ⟨_, rfl, _, rfl, _, rfl, L, _, _, .ref r, rfl, rfl, .inl (.inl N3.net), ar, r, _, rfl, .inl (.inl (.inl h3)), rfl, flat_nums _, _, rfl, ?_⟩
      show if (!inV (.int u) (t.map V.int)) = true then _ else _
      rw [inV_nums]
      by_cases m : u ∈ t
      · rw [decide_eq_true m]
        refine iteF ⟨s3, w, eD3, by omega, ?_⟩
        rw [ea1, decide_eq_true m, Bool.and_true]
        exact iff
      · rw [decide_eq_false m]
        refine iteT ⟨_, rfl, _, eD3, ?_, fun b o e => (upd_ne (ne_of_none e hD)).trans (s3 _ _ e), w ++ [(k : Int)], by rw [upd_same, List.map_append]; rfl, by rw [List.length_append]; show w.length + 1 ≤ i + 1; omega, ?_⟩
        · rw [List.length_map]
          exact Nat.lt_of_le_of_lt (show w.length ≤ 4000 by omega) (by decide)
        · rw [ea1, decide_eq_false m, Bool.and_false]
          constructor
          · intro h
            have h5 := congrArg List.length h
            rw [List.length_append] at h5
            have h6 : w.length + 1 = 0 := h5
            omega
          · intro h
            cases h
    · obtain ⟨s2, w, eD, wl, iff⟩ := hp
      refine ⟨Nat.zero_le _, fun Z2 hZ2 => ?_⟩
      refine ⟨nD w, nD [], dp_nD (.inl (.inl ((same_new hZ2) _ _ eD))), dp_nD (.inl (.inl upd_same)), nD_shaped _, nD_shaped _, ?_⟩
      rw [eqv_nD]
      have e3 : decide (w = []) = linkedB ts l := by
        unfold linkedB
        cases e : (List.range (l.length - 1)).all (linkAt ts l) with
        | true => exact decide_eq_true (iff.mpr e)
        | false =>
          refine decide_eq_false fun h => ?_
          rw [iff.mp h] at e
          cases e
      rw [e3]
      exact q2 _ ((sc.trans s2).trans (same_new hZ2))
def sp__law_holds (K : PySem.W.Frag) : Sp := fun vs H Q _ => ∃ (p : Addr) (most : Int) (n : Nat), vs = [.ref p, .int most] ∧ Pl H p n ∧ n ≤ 800000 ∧ 1 ≤ most ∧ most ≤ 12 ∧ ∀ H', But p H H' → Q (.bl true) H'
theorem ok__law_holds (T : Top K mg)
    (G__law_net : FnOk P w K mg base CX0 2 T.a__law_net T.d__law_net ["_law_source_here", "_law_most"] (sp__law_net K))
    (G__law_stroll : FnOk P w K mg base CX0 2 T.a__law_stroll T.d__law_stroll ["_law_source_here", "_law_net_here", "_law_most"] (sp__law_stroll K))
    (G__law_trail : FnOk P w K mg base CX0 1 T.a__law_trail T.d__law_trail ["_law_row"] (sp__law_trail K))
    (G_is_walk : FnOk P w K mg base CX0 7 T.a_is_walk T.d_is_walk ["site", "value"] (sp_is_walk K))
    (G_is_trail_of : FnOk P w K mg base CX0 7 T.a_is_trail_of T.d_is_trail_of ["site", "value"] (sp_is_trail_of K))
    (G__law_changed : FnOk P w K mg base CX0 2 T.a__law_changed T.d__law_changed ["_law_source_here", "_law_net_here", "_law_row"] (sp__law_changed K))
    (G__law_draw : FnOk P w K mg base CX0 1 T.a__law_draw T.d__law_draw ["_law_source_here", "_law_count"] (sp__law_draw K))
    (G__law_linked : FnOk P w K mg base CX0 1 T.a__law_linked T.d__law_linked ["_law_net_here", "_law_value"] (sp__law_linked K)) :
    FnG P w K mg base CX0 8 T.a__law_holds T.d__law_holds ["_law_source_here", "_law_most"] (sp__law_holds K) := by
  refine Fun_okG T.F__law_holds sc__law_holds (fun vs H Q E h => ?_) (fun cdv A outer s H vs Q E hG hr h => ?_)
  · obtain ⟨p, most, n, rfl, _⟩ := h
    rfl
  · obtain ⟨p, most, n, rfl, hP, hn, m1, m2, q⟩ := h
    have nd := sc__law_holds.nd
    have hu := hu_of hr
    have hU := units_of hr
    have hu64 := u64_of hr
    refine ⟨_, (pss_cons (ps_set (i := 2) nd rfl (Or.inl rfl) (pe_call G__law_net (hr.mono (by decide)) (by rfl) T.g__law_net T.F__law_net.kp T.b__law_net .nil pass0 (pa_cons (pv 0) (pa_cons (pv 1) pa_nil))))
      (pss_cons (ps_for PassesOwn.never rfl (pi_range1 (by rfl) T.n_range (pa_cons pe_int pa_nil)) (pg_name (i := 3) nd rfl (Or.inl rfl)) (pss_cons (ps_set (i := 4) nd rfl (Or.inl rfl) (pe_call G__law_stroll (hr.mono (by decide)) (by rfl) T.g__law_stroll T.F__law_stroll.kp T.b__law_stroll .nil pass0 (pa_cons (pv 0) (pa_cons (pv 2) (pa_cons (pe_ix ix_list (pe_lst (pa_cons (pe_op op_add pe_int (pe_call G__law_draw (hr.mono (by decide)) (by rfl) T.g__law_draw T.F__law_draw.kp T.b__law_draw .nil pass0 (pa_cons (pv 0) (pa_cons pe_int pa_nil)))) (pa_cons pe_int (pa_cons pe_int pa_nil)))) (pe_call G__law_draw (hr.mono (by decide)) (by rfl) T.g__law_draw T.F__law_draw.kp T.b__law_draw .nil pass0 (pa_cons (pv 0) (pa_cons pe_int pa_nil))) (fun _ _ => rfl)) pa_nil)))))
      (pss_cons (ps_set (i := 5) nd rfl (Or.inl rfl) (pe_call G__law_trail (hr.mono (by decide)) (by rfl) T.g__law_trail T.F__law_trail.kp T.b__law_trail .nil pass0 (pa_cons (pv 4) pa_nil)))
      (pss_one (ps_for PassesOwn.never rfl (pi_list (pe_lst (pa_cons (pv 4) (pa_cons (pv 5) (pa_cons (pe_call G__law_changed (hr.mono (by decide)) (by rfl) T.g__law_changed T.F__law_changed.kp T.b__law_changed .nil pass0 (pa_cons (pv 0) (pa_cons (pv 2) (pa_cons (pv 4) pa_nil)))) (pa_cons (pe_call G__law_changed (hr.mono (by decide)) (by rfl) T.g__law_changed T.F__law_changed.kp T.b__law_changed .nil pass0 (pa_cons (pv 0) (pa_cons (pv 2) (pa_cons (pv 5) pa_nil)))) pa_nil)))))) (pg_name (i := 6) nd rfl (Or.inl rfl)) (pss_cons (ps_par (i := 7) (j := 8) rfl nd rfl rfl (by decide) rfl rfl (pa_cons (pe_callB (call_showA hG hU) (by rfl) T.n_repr (by decide +kernel) (pa_cons (pe_lst (pa_cons (pv 2) (pa_cons (pv 6) pa_nil))) pa_nil)) (pa_cons (pe_call G__law_linked (hr.mono (by decide)) (by rfl) T.g__law_linked T.F__law_linked.kp T.b__law_linked .nil pass0 (pa_cons (pv 2) (pa_cons (pv 6) pa_nil))) pa_nil)) (by rfl))
      (pss_cons (ps_set (i := 9) nd rfl (Or.inl rfl) (pe_lst (pa_cons (pe_call G_is_walk (hr.mono (by decide)) (by rfl) T.g_is_walk T.F_is_walk.kp T.b_is_walk .nil pass0 (pa_cons (pv 2) (pa_cons (pv 6) pa_nil))) (pa_cons (pe_call G_is_trail_of (hr.mono (by decide)) (by rfl) T.g_is_trail_of T.F_is_trail_of.kp T.b_is_trail_of .nil pass0 (pa_cons (pv 2) (pa_cons (pv 6) pa_nil))) pa_nil))))
      (pss_cons (ps_set (i := 10) nd rfl (Or.inl rfl) (pe_and (pv 8) (pe_one (pe_cmpR op_eq (pe_callB call_len_seq (by rfl) T.n_len (by decide +kernel) (pa_cons (pe_callB (cr_sortedSet rfl) (by rfl) T.n_sorted (by decide +kernel) (pa_cons (pe_callTy (cr_setL rfl) (by rfl) T.n_set (by decide +kernel) (pa_cons (pv 6) pa_nil)) pa_nil)) pa_nil)) (pe_callB call_len_seq (by rfl) T.n_len (by decide +kernel) (pa_cons (pv 6) pa_nil)) (nomark _)))))
      (pss_one (ps_if ((pw_or (pt_cmpR op_ne (pe_callB (call_showA hG hU) (by rfl) T.n_repr (by decide +kernel) (pa_cons (pv 9) pa_nil)) (pe_callB (call_showA hG hU) (by rfl) T.n_repr (by decide +kernel) (pa_cons (pe_lst (pa_cons (pe_and (pv 8) (pe_one (pe_cmpR op_le (pe_callB call_len_seq (by rfl) T.n_len (by decide +kernel) (pa_cons (pv 6) pa_nil)) pe_int (nomark _)))) (pa_cons (pv 10) pa_nil))) pa_nil)) (nomark _)) (pw_or1 (pt_cmpR op_ne (pe_callB (call_showA hG hU) (by rfl) T.n_repr (by decide +kernel) (pa_cons (pe_lst (pa_cons (pv 2) (pa_cons (pv 6) pa_nil))) pa_nil)) (pv 7) (nomark _))))).pt (pss_one (ps_ret pe_bl)) pss_nil))))))))))
      (pss_cons (ps_set (i := 11) nd rfl (Or.inl rfl) (pe_lst (pa_cons (pe_lst (pa_cons pe_int pa_nil)) (pa_cons (pe_lst (pa_cons pe_int pa_nil)) pa_nil))))
      (pss_cons (ps_set (i := 9) nd rfl (Or.inl rfl) (pe_lst (pa_cons (pe_call G_is_walk (hr.mono (by decide)) (by rfl) T.g_is_walk T.F_is_walk.kp T.b_is_walk .nil pass0 (pa_cons (pv 11) (pa_cons (pe_op op_cat (pe_op op_rep (pe_lst (pa_cons pe_int (pa_cons pe_int pa_nil))) pe_int) (pe_lst (pa_cons pe_int pa_nil))) pa_nil))) (pa_cons (pe_call G_is_walk (hr.mono (by decide)) (by rfl) T.g_is_walk T.F_is_walk.kp T.b_is_walk .nil pass0 (pa_cons (pv 11) (pa_cons (pe_op op_rep (pe_lst (pa_cons pe_int (pa_cons pe_int pa_nil))) pe_int) pa_nil))) (pa_cons (pe_call G_is_trail_of (hr.mono (by decide)) (by rfl) T.g_is_trail_of T.F_is_trail_of.kp T.b_is_trail_of .nil pass0 (pa_cons (pv 11) (pa_cons (pe_lst (pa_cons pe_int (pa_cons pe_int pa_nil))) pa_nil))) (pa_cons (pe_call G_is_walk (hr.mono (by decide)) (by rfl) T.g_is_walk T.F_is_walk.kp T.b_is_walk .nil pass0 (pa_cons (pe_lst (pa_cons (pe_lst pa_nil) pa_nil)) (pa_cons (pe_lst (pa_cons pe_int pa_nil)) pa_nil))) pa_nil))))))
      (pss_one (ps_ret (pe_cmpR (op_eqD hu64) (pv 9) (pe_lst (pa_cons pe_bl (pa_cons pe_bl (pa_cons pe_bl (pa_cons pe_bl pa_nil))))) (nomark _)))))))), ?_⟩
    refine ⟨.ref p, rfl, _, rfl, p, most, n, rfl, hP, by omega, m1, m2, fun H1 L as ts b1 P1 L0 eL R nd fr n1 n2 lk => ?_⟩
    have nLp : L ≠ p := ne_of_pl hP L0
    have nap : ∀ r ∈ as, r ≠ p := fun r hr => (fr r hr).2.2
    have N1 : Net H1 L as ts := ⟨eL, R, n1, n2, lk⟩
    clear eL R lk fr
    refine ⟨8, rfl, by decide, by decide, for_range (n := 8) (fun i σ H2 => ∃ y3 y4 y5 y6 y7 y8 y9 y10 y11, σ = [some (.ref p), some (.int most), some (.ref L), y3, y4, y5, y6, y7, y8, y9, y10, y11] ∧ But p H H2 ∧ Net H2 L as ts ∧ Pl H2 p (n + 400 + 200 * i)) ⟨_, _, _, _, _, _, _, _, _, rfl, b1, N1, P1⟩ (fun i σ H2 hi hW => ?_) (fun σ H2 hW => ?_)⟩
    case refine_1 =>
      obtain ⟨y3, y4, y5, y6, y7, y8, y9, y10, y11, rfl, b2, N2, P2⟩ := hW
      refine ⟨.ref p, rfl, .ref L, rfl, .ref p, rfl, p, 8, _, rfl, P2, by omega, by decide, by decide, fun H3 r1 b3 P3 l1 u1 => ⟨_, _, rfl, rfl, (by show 3 ≤ sizeLine; decide), fun M hM => ?_⟩⟩
      have nM := ne_of_pl P3 hM
      have sM := same_new (o := .lst [V.int (1 + r1), V.int 61, V.int 62]) hM
      have eM : upd H3 M (.lst [V.int (1 + r1), V.int 61, V.int 62]) M = some (.lst [V.int (1 + r1), V.int 61, V.int 62]) := upd_same
      refine ⟨.ref p, rfl, p, 3, _, rfl, P3.same sM, by omega, by decide, by decide, fun H4 r2 b4 P4 l2 u2 => ?_⟩
      obtain ⟨v, av, mv⟩ := at_ex (xs := [V.int (1 + r1), V.int 61, V.int 62]) l2 (by show r2 < 3; exact u2)
      obtain ⟨k, rfl, k1, k2⟩ : ∃ k : Int, v = .int k ∧ 1 ≤ k ∧ k ≤ 62 := by
        rcases List.mem_cons.mp mv with e | mv
        · exact ⟨_, e, by omega, by omega⟩
        rcases List.mem_cons.mp mv with e | mv
        · exact ⟨_, e, by decide, by decide⟩
        · exact ⟨_, List.mem_singleton.mp mv, by decide, by decide⟩
      have b34 := (b3.trans (.of_same sM)).trans b4
      have N4 := N2.but b34 nLp nap
      refine ⟨M, _, r2, _, rfl, rfl, .inl (.inl (b4 _ _ nM eM)), av, p, L, as, ts, k, _, rfl, N4, nLp, nap, P4, by omega, k1, by omega, fun H5 ra l b5 P5 ra0 era ll l1' lz => ?_⟩
      have nra := ne_of_pl P4 ra0
      have N5 := N4.but b5 nLp nap
      -- the trail of it
      refine ⟨.ref ra, rfl, ra, l, rfl, era, by omega, fun H6 rb s6 rb0 erb => ?_⟩
      have nrb := ne_of_pl P5 rb0
      have era6 := s6 _ _ era
      have N6 := N5.same s6
      have P6 := P5.same s6
      have tl := play_len l []
      have tz : ∀ z ∈ play [] l, 0 ≤ z ∧ z < (as.length : Int) := fun z hz => by
        rcases play_mem hz with h | h
        · cases h
        · exact lz z h
      have t1 : 1 ≤ (play [] l).length := by
        rcases Nat.eq_zero_or_pos (play [] l).length with w | w
        · exfalso
          cases l with
          | nil => exact absurd l1' (by decide)
          | cons x r =>
            have h1 := List.length_eq_zero_iff.mp w
            have h2 : ∀ (r t : List Int), t ≠ [] → play t r ≠ [] := fun r => by
              induction r with
              | nil => exact fun t ht => ht
              | cons y r ih =>
                intro t ht
                refine ih (vis t y) fun e => ?_
                unfold vis at e
                split at e
                · cases t with
                  | nil => exact ht rfl
                  | cons a t => cases e
                · cases t with
                  | nil => cases e
                  | cons a t => cases e
            exact h2 r (vis [] x) (fun e => by cases e) h1
        · exact w
      have b26 := (b34.trans b5).trans (.of_same s6)
      generalize play [] l = t at erb tl tz t1
      have h0 : ([] : List Int).length = 0 := rfl
      have z40 : ∀ z : Int, 0 ≤ z ∧ z < (as.length : Int) → 0 ≤ z ∧ z < 40 := fun z h => by omega
      refine ⟨_, rfl, _, rfl, .ref p, rfl, .ref L, rfl, _, rfl, p, L, ra, as, ts, l, _, rfl, N6, nLp, nra, era6, l1', by omega, fun z hz => z40 z (lz z hz), P6, by omega, fun H7 x1 b7 P7 gx1 => ?_⟩
      have N7 := N6.but b7 nLp nap
      refine ⟨.ref p, rfl, .ref L, rfl, _, rfl, p, L, rb, as, ts, t, _, rfl, N7, nLp, nrb, b7 _ _ nrb erb, t1, by omega, fun z hz => z40 z (tz z hz), P7, by omega, fun H8 x2 b8 P8 gx2 => ⟨(by show 4 ≤ sizeLine; decide), fun S hS => ?_⟩⟩
      have nS := ne_of_pl P8 hS
      have bHS := (b7.trans b8).trans (.of_same (same_new (o := .lst [.ref ra, .ref rb, x1, x2]) hS))
      have eS : upd H8 S (.lst [.ref ra, .ref rb, x1, x2]) S = some (.lst [.ref ra, .ref rb, x1, x2]) := upd_same
      have P9 := P8.same (same_new (o := .lst [.ref ra, .ref rb, x1, x2]) hS)
      have b89 := b8.trans (.of_same (same_new (o := .lst [.ref ra, .ref rb, x1, x2]) hS))
      have b99 : But p H8 (upd H8 S (.lst [.ref ra, .ref rb, x1, x2])) := .of_same (same_new hS)
      generalize hHS : upd H8 S (.lst [.ref ra, .ref rb, x1, x2]) = HS at bHS eS P9 b89 b99 ⊢
      have gS : ∀ y ∈ [V.ref ra, .ref rb, x1, x2], Gr K HS y := by
        intro y hy
        rcases List.mem_cons.mp hy with rfl | hy
        · exact gr_nums (bHS _ _ nra era6) (fun z hz => by have := lz z hz; omega) (by omega)
        rcases List.mem_cons.mp hy with rfl | hy
        · exact gr_nums (bHS _ _ nrb erb) (fun z hz => by have := tz z hz; omega) (by omega)
        rcases List.mem_cons.mp hy with rfl | hy
        · exact gx1 HS b89
        · rw [List.mem_singleton.mp hy]
          exact gx2 HS b99
      have NS := N6.but bHS nLp nap
      have B9 := (b2.trans b26).trans bHS
      generalize [V.ref ra, .ref rb, x1, x2] = xs at eS gS
      refine ⟨S, rfl, ⟨_, .inl (.inl eS)⟩, for_list (xs := xs) (fun j σ H9 => ∃ y6 y7 y8 y9 y10 y11, σ = [some (.ref p), some (.int most), some (.ref L), some (.int (0 + i)), some (.ref ra), some (.ref rb), y6, y7, y8, y9, y10, y11] ∧ Same HS H9) ⟨_, _, _, _, _, _, rfl, Same.refl _⟩ (fun j σ H9 _ hW => ?_) (fun j y σ H9 hj hW => ?_) (fun σ H9 hW => ?_)⟩
      · obtain ⟨_, _, _, _, _, _, _, s9⟩ := hW
        exact .inl (.inl (s9 _ _ eS))
      · obtain ⟨y6, y7, y8, y9, y10, y11, rfl, s9⟩ := hW
        have gy := (gS y (List.mem_of_getElem? hj)).same s9
        have N9 := NS.same s9
        obtain ⟨ds, hds⟩ := gr_paired (K := K) (H := H9) (xs := [.ref L, y]) fun v hv => by
          rcases List.mem_cons.mp hv with rfl | hv
          · exact N9.gr
          · rw [List.mem_singleton.mp hv]
            exact gy
        refine ⟨_, rfl, _, rfl, (by show 2 ≤ sizeLine; decide), fun B1 hB1 => ?_⟩
        have sB := same_new (o := .lst [.ref L, y]) hB1
        refine ⟨.ref B1, _, rfl, .inr (.inr ⟨B1, _, ds, rfl, upd_same, d0_same sB hds, by show 2 ≤ 700; decide, rfl⟩), ?_⟩
        refine ⟨_, rfl, _, rfl, L, as, ts, y, rfl, N9.same sB, okv_same sB gy.ok, fun H11 s11 => ⟨_, _, rfl, ?_⟩⟩
        have t11 := sB.trans s11
        rw [itemsB_same sB gy.ok.1]
        refine ⟨_, rfl, _, rfl, L, as, ts, y, rfl, N9.same t11, okv_same t11 gy.ok, fun H12 s12 => ?_⟩
        have t12 := t11.trans s12
        rw [itemsB_same t11 gy.ok.1]
        refine ⟨_, rfl, _, rfl, L, as, ts, y, rfl, N9.same t12, okv_same t12 gy.ok, fun H13 s13 => ?_⟩
        have t13 := t12.trans s13
        rw [itemsB_same t12 gy.ok.1]
        refine ⟨(by show 2 ≤ sizeLine; decide), fun T hT => ?_⟩
        have s14 := t13.trans (same_new (o := .lst [.bl (itemsB (walkB as.length ts) H9 y), .bl (itemsB (trailB as.length ts) H9 y)]) hT)
        have eT : upd H13 T (.lst [.bl (itemsB (walkB as.length ts) H9 y), .bl (itemsB (trailB as.length ts) H9 y)]) T = some (.lst [.bl (itemsB (walkB as.length ts) H9 y), .bl (itemsB (trailB as.length ts) H9 y)]) := upd_same
        generalize upd H13 T (.lst [.bl (itemsB (walkB as.length ts) H9 y), .bl (itemsB (trailB as.length ts) H9 y)]) = H14 at s14 eT ⊢
        clear s11 s12 s13 t11 t12 t13 hT
        cases lk : itemsB (lawLinkB as.length ts) H9 y with
        | false =>
        obtain ⟨w1, w2⟩ : itemsB (walkB as.length ts) H9 y = false ∧ itemsB (trailB as.length ts) H9 y = false := by
          by_cases hL : isLB H9 y = true
          · obtain ⟨C, xs, rfl, ec⟩ := isLB_of hL
            rw [itemsB_lst ec] at lk ⊢
            rw [itemsB_lst ec]
            exact walk_link lk
          · exact ⟨itemsB_no hL, itemsB_no hL⟩
        rw [w1, w2] at eT
        refine ⟨_, rfl, _, rfl, iteF ?_⟩
        have s15 := s14
        generalize H14 = H15 at s15 eT ⊢
        refine ⟨_, rfl, .ref T, _, rfl, shw_bools eT, ?_⟩
        refine ⟨_, rfl, _, rfl, iteF ?_⟩
        refine ⟨_, rfl, (by show 2 ≤ sizeLine; decide), fun Z1 hZ1 => ⟨.ref Z1, _, rfl, shw_bools upd_same, rfl, _, rfl, ?_⟩⟩
        rw [decide_eq_true rfl]
        show if (!true) = true then _ else _
        refine iteF ⟨_, rfl, _, rfl, (by show 2 ≤ sizeLine; decide), fun Z2 hZ2 => ?_⟩
        have s16 := s15.trans (same_new (o := .lst [.bl (false), .bl (false)]) hZ1)
        have s17 := s16.trans (same_new (o := .lst [.ref L, y]) hZ2)
        refine ⟨.ref Z2, _, rfl, .inr (.inr ⟨Z2, _, ds, rfl, upd_same, d0_same s17 hds, by show 2 ≤ 700; decide, rfl⟩), _, rfl, rfl, _, rfl, ?_⟩
        rw [decide_eq_true rfl]
        show if (!true) = true then _ else _
        exact iteF ⟨_, _, _, _, _, _, rfl, s9.trans s17⟩
        | true =>
        obtain ⟨C, xs, ey, ec⟩ := isLB_of (show isLB H9 y = true by
          by_cases hL : isLB H9 y = true
          · exact hL
          · rw [itemsB_no hL] at lk
            cases lk)
        subst ey
        rw [itemsB_lst ec] at lk
        unfold lawLinkB at lk
        rw [Bool.and_eq_true, Bool.and_eq_true] at lk
        obtain ⟨d2, c2, lk2⟩ := lk
        have ex := nums_of (show xs.all (inRg 0 ((as.length : Int) - 1)) = true from c2)
        have en : (nums xs).length = xs.length := by unfold nums; rw [List.length_map]
        have hx4 := (gy.ok.2 C xs rfl ec).1
        have rg : ∀ z ∈ nums xs, 0 ≤ z ∧ z < (as.length : Int) := fun z hz => by
          have h1 : xs.all (inRg 0 ((as.length : Int) - 1)) = true := c2
          rw [← ex] at h1
          have h2 : (decide (0 ≤ z) && decide (z ≤ (as.length : Int) - 1)) = true := List.all_eq_true.mp h1 (.int z) (List.mem_map.mpr ⟨z, hz, rfl⟩)
          rw [Bool.and_eq_true] at h2
          have h4 := of_decide_eq_true h2.1
          have h5 := of_decide_eq_true h2.2
          omega
        obtain ⟨w1, w2⟩ : itemsB (walkB as.length ts) H9 (.ref C) = decide (((xs.length : Nat) : Int) ≤ 61) ∧ itemsB (trailB as.length ts) H9 (.ref C) = decide (nums xs).Nodup := by
          rw [itemsB_lst ec, itemsB_lst ec, show decide (((xs.length : Nat) : Int) ≤ 61) = decide (xs.length ≤ 61) from decide_eq_decide.mpr (by omega)]
          unfold walkB trailB difB
          rw [c2, d2, lk2]
          exact ⟨by rw [Bool.true_and, Bool.true_and, Bool.and_true], by rw [Bool.true_and, Bool.and_true, Bool.and_true]⟩
        rw [w1, w2] at eT
        refine ⟨_, rfl, _, rfl, iteT ?_⟩
        refine ⟨_, rfl, C, nums xs, rfl, .inl (.inl (by rw [ex]; exact s14 _ _ ec)), by omega, fun Sx m hSx once => ⟨Sx, _, m, rfl, upd_same, by have := once_le once rg; omega, fun ns' zz pw mem len hzz => ?_⟩⟩
        have s15 := (s14.trans (same_new (o := SetO w Sx (fun j => decide (j ∈ nums xs)) m) hSx)).trans (same_new (o := .lst (ns'.map V.int)) hzz)
        have ez : upd (upd H14 Sx (SetO w Sx (fun j => decide (j ∈ nums xs)) m)) zz (.lst (ns'.map V.int)) zz = some (.lst (ns'.map V.int)) := upd_same
        have eT := (same_new (o := .lst (ns'.map V.int)) hzz) _ _ ((same_new (o := SetO w Sx (fun j => decide (j ∈ nums xs)) m) hSx) _ _ eT)
        refine ⟨zz, _, rfl, .inl (.inl (.inl ez)), _, rfl, C, _, rfl, .inl (.inl (.inl (s15 _ _ ec))), rfl, ?_⟩
        have el : decide (V.int (((ns'.map V.int).length : Nat) : Int) = V.int ((xs.length : Nat) : Int)) = decide (nums xs).Nodup := by
          rw [bl_int]
          refine decide_eq_decide.mpr ?_
          rw [List.length_map, len, ← en]
          exact once_iff once
        rw [el]
        refine ⟨_, rfl, .ref T, _, rfl, shw_bools eT, ?_⟩
        refine ⟨_, rfl, _, rfl, iteT ⟨_, rfl, C, xs, rfl, .inl (.inl (.inl (s15 _ _ ec))), _, _, rfl, rfl, ?_⟩⟩
        refine ⟨_, rfl, (by show 2 ≤ sizeLine; decide), fun Z1 hZ1 => ⟨.ref Z1, _, rfl, shw_bools upd_same, rfl, _, rfl, ?_⟩⟩
        rw [decide_eq_true rfl]
        show if (!true) = true then _ else _
        refine iteF ⟨_, rfl, _, rfl, (by show 2 ≤ sizeLine; decide), fun Z2 hZ2 => ?_⟩
        have s16 := s15.trans (same_new (o := .lst [.bl (decide (((xs.length : Nat) : Int) ≤ 61)), .bl (decide (nums xs).Nodup)]) hZ1)
        have s17 := s16.trans (same_new (o := .lst [.ref L, .ref C]) hZ2)
        refine ⟨.ref Z2, _, rfl, .inr (.inr ⟨Z2, _, ds, rfl, upd_same, d0_same s17 hds, by show 2 ≤ 700; decide, rfl⟩), _, rfl, rfl, _, rfl, ?_⟩
        rw [decide_eq_true rfl]
        show if (!true) = true then _ else _
        exact iteF ⟨_, _, _, _, _, _, rfl, s9.trans s17⟩
      · obtain ⟨y6, y7, y8, y9, y10, y11, rfl, s9⟩ := hW
        exact ⟨_, _, _, _, _, _, _, _, _, rfl, B9.trans (.of_same s9), NS.same s9, (P9.same s9).mono (by omega)⟩
    obtain ⟨y3, y4, y5, y6, y7, y8, y9, y10, y11, rfl, b2, N2, P2⟩ := hW
    clear N2 P2 N1 nap nLp
    refine ⟨(by show 1 ≤ sizeLine; decide), fun q1 f1 => ?_⟩
    have s3 := same_new (o := .lst [.int 1]) f1
    have eq1 : upd H2 q1 (.lst [.int 1]) q1 = some (.lst [.int 1]) := upd_same
    generalize upd H2 q1 (.lst [.int 1]) = H3 at s3 eq1 ⊢
    refine ⟨(by show 1 ≤ sizeLine; decide), fun q2 f2 => ?_⟩
    have s4 := same_new (o := .lst [.int 0]) f2
    have eq2 : upd H3 q2 (.lst [.int 0]) q2 = some (.lst [.int 0]) := upd_same
    generalize upd H3 q2 (.lst [.int 0]) = H4 at s4 eq2 ⊢
    refine ⟨(by show 2 ≤ sizeLine; decide), fun tw f3 => ?_⟩
    have s5 := same_new (o := .lst [.ref q1, .ref q2]) f3
    have etw : upd H4 tw (.lst [.ref q1, .ref q2]) tw = some (.lst [.ref q1, .ref q2]) := upd_same
    generalize upd H4 tw (.lst [.ref q1, .ref q2]) = H5 at s5 etw ⊢
    have NT := net_two etw (s5 _ _ (s4 _ _ eq1)) (s5 _ _ eq2)
    have knI : ∀ (G : Hp) (n : Nat) (y : V), y ∈ (List.replicate n [V.int 0, V.int 1]).flatten → Kn G y := fun G n y hy => by
      rcases List.mem_cons.mp (mem_rep hy) with rfl | hy
      · exact trivial
      · rw [List.mem_singleton.mp hy]
        exact trivial
    refine ⟨_, rfl, (by show 2 ≤ sizeLine; decide), fun c1 f4 => ?_⟩
    have s6 := same_new (o := .lst [.int 0, .int 1]) f4
    have ec1 : upd H5 c1 (.lst [.int 0, .int 1]) c1 = some (.lst [.int 0, .int 1]) := upd_same
    generalize upd H5 c1 (.lst [.int 0, .int 1]) = H6 at s6 ec1 ⊢
    refine ⟨c1, 30, _, rfl, rfl, ec1, by decide, by decide, (by show 2 * 30 ≤ sizeLine; decide), fun c2 f5 => ?_⟩
    have s7 := same_new (o := .lst (List.replicate (Int.toNat 30) [V.int 0, V.int 1]).flatten) f5
    have ec2 : upd H6 c2 (.lst (List.replicate (Int.toNat 30) [V.int 0, V.int 1]).flatten) c2 = some (.lst (List.replicate (Int.toNat 30) [V.int 0, V.int 1]).flatten) := upd_same
    generalize upd H6 c2 (.lst (List.replicate (Int.toNat 30) [V.int 0, V.int 1]).flatten) = H7 at s7 ec2 ⊢
    refine ⟨(by show 1 ≤ sizeLine; decide), fun c3 f6 => ?_⟩
    have s8 := same_new (o := .lst [.int 0]) f6
    have ec3 : upd H7 c3 (.lst [.int 0]) c3 = some (.lst [.int 0]) := upd_same
    generalize upd H7 c3 (.lst [.int 0]) = H8 at s8 ec3 ⊢
    refine ⟨c2, c3, _, _, rfl, rfl, (s8 _ _ ec2), ec3, (by rw [len_rep]; show 30 * 2 + 1 ≤ sizeLine; decide), fun c4 f7 => ?_⟩
    have s9 := same_new (o := .lst ((List.replicate (Int.toNat 30) [V.int 0, V.int 1]).flatten ++ [V.int 0])) f7
    have ec4 : upd H8 c4 (.lst ((List.replicate (Int.toNat 30) [V.int 0, V.int 1]).flatten ++ [V.int 0])) c4 = some (.lst ((List.replicate (Int.toNat 30) [V.int 0, V.int 1]).flatten ++ [V.int 0])) := upd_same
    generalize upd H8 c4 (.lst ((List.replicate (Int.toNat 30) [V.int 0, V.int 1]).flatten ++ [V.int 0])) = H9 at s9 ec4 ⊢
    have t1 := (((s6.trans s7).trans s8).trans s9)
    refine ⟨tw, _, _, .ref c4, rfl, NT.same t1, okv_list ec4 (by rw [List.length_append, len_rep]; decide) (fun y hy => by
      rcases List.mem_append.mp hy with hy | hy
      · exact knI _ _ y hy
      · rw [List.mem_singleton.mp hy]
        exact trivial), fun H10 s10 => ?_⟩
    rw [itemsB_lst ec4, show walkB [q1, q2].length [[1], [0]] _ = true from two_a]
    refine ⟨_, rfl, (by show 2 ≤ sizeLine; decide), fun d1 f8 => ?_⟩
    have s11 := same_new (o := .lst [.int 0, .int 1]) f8
    have ed1 : upd H10 d1 (.lst [.int 0, .int 1]) d1 = some (.lst [.int 0, .int 1]) := upd_same
    generalize upd H10 d1 (.lst [.int 0, .int 1]) = H11 at s11 ed1 ⊢
    refine ⟨d1, 31, _, rfl, rfl, ed1, by decide, by decide, (by show 2 * 31 ≤ sizeLine; decide), fun d2 f9 => ?_⟩
    have s12 := same_new (o := .lst (List.replicate (Int.toNat 31) [V.int 0, V.int 1]).flatten) f9
    have ed2 : upd H11 d2 (.lst (List.replicate (Int.toNat 31) [V.int 0, V.int 1]).flatten) d2 = some (.lst (List.replicate (Int.toNat 31) [V.int 0, V.int 1]).flatten) := upd_same
    generalize upd H11 d2 (.lst (List.replicate (Int.toNat 31) [V.int 0, V.int 1]).flatten) = H12 at s12 ed2 ⊢
    have t2 := ((((((s6.trans s7).trans s8).trans s9).trans s10).trans s11).trans s12)
    refine ⟨tw, _, _, .ref d2, rfl, NT.same t2, okv_list ed2 (by rw [len_rep]; decide) (knI _ _), fun H13 s13 => ?_⟩
    rw [itemsB_lst ed2, show walkB [q1, q2].length [[1], [0]] _ = false from two_b]
    refine ⟨_, rfl, (by show 2 ≤ sizeLine; decide), fun g1 f10 => ?_⟩
    have s14 := same_new (o := .lst [.int 0, .int 1]) f10
    have eg1 : upd H13 g1 (.lst [.int 0, .int 1]) g1 = some (.lst [.int 0, .int 1]) := upd_same
    generalize upd H13 g1 (.lst [.int 0, .int 1]) = H14 at s14 eg1 ⊢
    have t3 := ((((((((s6.trans s7).trans s8).trans s9).trans s10).trans s11).trans s12).trans s13).trans s14)
    refine ⟨tw, _, _, .ref g1, rfl, NT.same t3, okv_list eg1 (by show 2 ≤ 4000; decide) (fun y hy => by
      rcases List.mem_cons.mp hy with rfl | hy
      · exact trivial
      · rw [List.mem_singleton.mp hy]
        exact trivial), fun H15 s15 => ?_⟩
    rw [itemsB_lst eg1, show trailB [q1, q2].length [[1], [0]] _ = true from two_c]
    refine ⟨Nat.zero_le _, fun k1 f11 => ?_⟩
    have s16 := same_new (o := .lst []) f11
    have ek1 : upd H15 k1 (.lst []) k1 = some (.lst []) := upd_same
    generalize upd H15 k1 (.lst []) = H16 at s16 ek1 ⊢
    refine ⟨(by show 1 ≤ sizeLine; decide), fun k2 f12 => ?_⟩
    have s17 := same_new (o := .lst [.ref k1]) f12
    have ek2 : upd H16 k2 (.lst [.ref k1]) k2 = some (.lst [.ref k1]) := upd_same
    generalize upd H16 k2 (.lst [.ref k1]) = H17 at s17 ek2 ⊢
    have NO := net_one ek2 (s17 _ _ ek1)
    refine ⟨(by show 1 ≤ sizeLine; decide), fun k3 f13 => ?_⟩
    have s18 := same_new (o := .lst [.int 0]) f13
    have ek3 : upd H17 k3 (.lst [.int 0]) k3 = some (.lst [.int 0]) := upd_same
    generalize upd H17 k3 (.lst [.int 0]) = H18 at s18 ek3 ⊢
    refine ⟨k2, _, _, .ref k3, rfl, NO.same s18, okv_list ek3 (by show 1 ≤ 4000; decide) (fun y hy => by rw [List.mem_singleton.mp hy]; exact trivial), fun H19 s19 => ?_⟩
    rw [itemsB_lst ek3, show walkB [k1].length [[]] _ = true from two_d]
    refine ⟨(by show 4 ≤ sizeLine; decide), fun T f14 => ?_⟩
    have s20 := same_new (o := .lst [.bl true, .bl false, .bl true, .bl true]) f14
    have eT : upd H19 T (.lst [.bl true, .bl false, .bl true, .bl true]) T = some (.lst [.bl true, .bl false, .bl true, .bl true]) := upd_same
    generalize upd H19 T (.lst [.bl true, .bl false, .bl true, .bl true]) = H20 at s20 eT ⊢
    refine ⟨_, rfl, (by show 4 ≤ sizeLine; decide), fun Z hZ => ⟨bD [true, false, true, true], bD [true, false, true, true], dp_bD (.inl (.inl (same_new hZ _ _ eT))), dp_bD (.inl (.inl upd_same)), (by decide +kernel), (by decide +kernel), ?_⟩⟩
    rw [show PyData.eqv (bD [true, false, true, true]) (bD [true, false, true, true]) = true by decide +kernel]
    exact q _ (b2.trans (.of_same ((((((((((((((((((s3.trans s4).trans s5).trans s6).trans s7).trans s8).trans s9).trans s10).trans s11).trans s12).trans s13).trans s14).trans s15).trans s16).trans s17).trans s18).trans s19).trans s20).trans (same_new hZ))))
def sp__law_source (K : PySem.W.Frag) : Sp := fun vs H Q _ => ∃ (c : Int) (k : Nat), vs = [.int c, .int k] ∧ k ≤ 100 ∧ ∀ H' p, Same H H' → H p = none → Pl H' p 0 → Q (.ref p) H'
theorem ok__law_source (T : Top K mg) :
    FnOk P w K mg base CX0 1 T.a__law_source T.d__law_source ["_law_cell", "_law_k"] (sp__law_source K) := by
  refine T.F__law_source.ok sc__law_source (fun vs H Q E h => ?_) (fun cdv A outer s H vs Q E hr h => ?_)
  · obtain ⟨c, k, rfl, _⟩ := h
    rfl
  · obtain ⟨c, k, rfl, hk, q⟩ := h
    have nd := sc__law_source.nd
    have hu := hu_of hr
    have hU := units_of hr
    have hu64 := u64_of hr
    refine ⟨_, (pss_one (ps_ret (pe_lst (pa_cons (pe_callB (call_max2 rfl) (by rfl) T.n_max (by decide +kernel) (pa_cons pe_int (pa_cons (pe_op op_sub (pv 0) (pe_op op_pow pe_int pe_int)) pa_nil))) (pa_cons (pe_op op_add (pe_op op_mul (pe_op op_mod (pv 0) (pe_op op_add (pe_op op_pow pe_int pe_int) pe_int)) pe_int) (pv 1)) (pa_cons pe_int pa_nil)))))), ?_⟩
    refine ⟨_, rfl, _, _, rfl, rfl, pow_ok 18 (by decide) (by decide), _, _, rfl, rfl, _, _, rfl, ?_⟩
    refine ⟨_, rfl, _, _, rfl, rfl, pow_ok 33 (by decide) (by decide), _, _, rfl, rfl, _, _, rfl, rfl, (by show (0 : Int) < _; rw [pw33]; decide), _, _, rfl, rfl, .inr ⟨by decide, by decide⟩, _, rfl, _, _, rfl, rfl, (by show 3 ≤ sizeLine; decide), fun pp hp => ?_⟩
    refine q _ pp (same_new hp) hp ⟨_, _, _, upd_same, ?_, ?_, ?_, by omega, by omega⟩
    · split <;> omega
    · rw [pw33]
      omega
    · rw [pw33, e2_160]
      omega
def sp_law (K : PySem.W.Frag) : Sp := fun vs H Q _ => ∃ (a : Addr) (ns : List Int), vs = [.ref a] ∧ SqL K H a (ns.map V.int) ∧ ns.length ≤ 63 ∧ (∀ b, H b ≠ none → b = a) ∧ ∀ H', Q (.bl true) H'
theorem ok_law (T : Top K mg)
    (G__law_holds : FnG P w K mg base CX0 8 T.a__law_holds T.d__law_holds ["_law_source_here", "_law_most"] (sp__law_holds K))
    (G__law_source : FnOk P w K mg base CX0 1 T.a__law_source T.d__law_source ["_law_cell", "_law_k"] (sp__law_source K)) :
    FnG P w K mg base CX0 9 T.a_law T.d_law ["_law_script"] (sp_law K) := by
  refine Fun_okG T.F_law sc_law (fun vs H Q E h => ?_) (fun cdv A outer s H vs Q E hG hr h => ?_)
  · obtain ⟨a, ns, rfl, _⟩ := h
    rfl
  · obtain ⟨a, ns, rfl, hS, hl, one, q⟩ := h
    have nd := sc_law.nd
    have hu := hu_of hr
    have hU := units_of hr
    have hu64 := u64_of hr
    refine ⟨_, (pss_cons (ps_for PassesOwn.never rfl (pi_enum (by rfl) T.n_enumerate (pa_cons (pe_slice sl_list (pe_op op_catL (pv 0) (pe_lst (pa_cons pe_int pa_nil))) po_none (po_some (pe_callB (call_max2 rfl) (by rfl) T.n_max (by decide +kernel) (pa_cons pe_int (pa_cons (pe_callB (call_min2 rfl) (by rfl) T.n_min (by decide +kernel) (pa_cons (pe_callB call_len_seq (by rfl) T.n_len (by decide +kernel) (pa_cons (pv 0) pa_nil)) (pa_cons pe_int pa_nil))) pa_nil))))) pa_nil)) (pg_tup rfl (pgs_cons (pg_name (i := 1) nd rfl (Or.inl rfl)) (pgs_cons (pg_name (i := 2) nd rfl (Or.inl rfl)) pgs_nil))) (pss_one (ps_if (pt_not (pt_val (pe_callG G__law_holds hG (hr.mono (by decide)) (by rfl) T.g__law_holds T.F__law_holds.kp T.b__law_holds .nil pass0 (pa_cons (pe_call G__law_source (hr.mono (by decide)) (by rfl) T.g__law_source T.F__law_source.kp T.b__law_source .nil pass0 (pa_cons (pv 2) (pa_cons (pv 1) pa_nil))) (pa_cons (pe_ifExp (pt_cmpR (op_eqD hu64) (pv 0) (pe_lst pa_nil) (nomark _)) pe_int pe_int) pa_nil))))) (pss_one (ps_ret pe_bl)) pss_nil)))
      (pss_one (ps_ret pe_bl))), ?_⟩
    refine ⟨_, rfl, (by show 1 ≤ sizeLine; decide), fun z fz => ?_⟩
    have sz := same_new (o := .lst [.int 0]) fz
    refine ⟨a, z, _, _, rfl, rfl, sz.seq hS, .inl (.inl upd_same), (by rw [List.length_map]; exact Nat.le_trans (show ns.length + 1 ≤ 64 by omega) (by decide)), fun c fc => ?_⟩
    have sc := same_new (o := .lst (ns.map V.int ++ [.int 0])) fc
    have ec : upd (upd H z (.lst [.int 0])) c (.lst (ns.map V.int ++ [.int 0])) c = some (.lst (ns.map V.int ++ [.int 0])) := upd_same
    have s2 := sz.trans sc
    generalize upd (upd H z (.lst [.int 0])) c (.lst (ns.map V.int ++ [.int 0])) = H2 at ec s2 ⊢
    refine ⟨.ref a, rfl, a, _, rfl, .inl (s2.seq hS), _, _, rfl, _, _, rfl, _, rfl, c, _, rfl, .inl (.inl ec), fun d fd => ?_⟩
    obtain ⟨k, hk, k1, k2⟩ : ∃ k : Nat, (if (if (20 : Int) < ((ns.map V.int).length : Nat) then 20 else (((ns.map V.int).length : Nat) : Int)) > 1 then (if (20 : Int) < ((ns.map V.int).length : Nat) then 20 else (((ns.map V.int).length : Nat) : Int)) else 1) = (k : Int) ∧ 1 ≤ k ∧ k ≤ 20 := by
      have h0 : ∀ m : Int, 1 ≤ m → m ≤ 20 → ∃ k : Nat, m = (k : Int) ∧ 1 ≤ k ∧ k ≤ 20 := fun m h1 h2 => by
        obtain ⟨k, rfl⟩ := Int.eq_ofNat_of_zero_le (show 0 ≤ m by omega)
        exact ⟨k, rfl, by omega, by omega⟩
      refine h0 _ ?_ ?_
      · split <;> omega
      · split <;> split <;> omega
    rw [hk, cut_to]
    have em : ns.map V.int ++ [V.int 0] = (ns ++ [0]).map V.int := by rw [List.map_append]; rfl
    rw [em, ← List.map_take]
    have hcl : ((ns ++ [0]).take k).length ≤ 20 := by rw [List.length_take]; omega
    have s3 := s2.trans (same_new (o := .lst (((ns ++ [0]).take k).map V.int)) fd)
    have ed : upd H2 d (.lst (((ns ++ [0]).take k).map V.int)) d = some (.lst (((ns ++ [0]).take k).map V.int)) := upd_same
    generalize (ns ++ [0]).take k = cells at hcl s3 ed ⊢
    generalize upd H2 d (.lst (cells.map V.int)) = H3 at s3 ed ⊢
    refine ⟨d, _, rfl, .inl (.inl ed), for_enum (xs := cells.map V.int) (fun i σ H4 => Same H3 H4 ∧ ∃ y1 y2, σ = [some (.ref a), y1, y2]) ⟨Same.refl _, _, _, rfl⟩ (fun i σ H4 _ hW => .inl (.inl (hW.1 _ _ ed))) (fun i x σ H4 T hi hW hT => ?_) (fun σ H4 hW => ?_)⟩
    · obtain ⟨s4, y1, y2, rfl⟩ := hW
      obtain ⟨cell, hc, rfl⟩ := at_nums hi
      have hil : i < cells.length := (List.getElem?_eq_some_iff.mp hc).1
      refine ⟨T, _, rfl, .inl (.inl upd_same), rfl, _, _, rfl, _, [], rfl, rfl, ?_⟩
      have s5 := s4.trans (same_new (o := .tup [.int (i : Nat), .int cell]) hT)
      generalize upd H4 T (.tup [.int (i : Nat), .int cell]) = H5 at s5 ⊢
      refine ⟨_, rfl, _, rfl, cell, i, rfl, by omega, fun H6 p s6 fp P => ?_⟩
      have s7 := s5.trans s6
      have fp3 : H3 p = none := s5.free fp
      refine ⟨.ref a, rfl, Nat.zero_le _, fun Z hZ => ?_⟩
      have sZ := same_new (o := .lst []) hZ
      refine ⟨nD ns, nD [], dp_nD (((s3.trans s7).trans sZ).seq hS), dp_nD (.inl (.inl upd_same)), nD_shaped _, nD_shaped _, _, rfl, ?_⟩
      have fin : ∀ H7, But p (upd H6 Z (.lst [])) H7 → Same H3 H7 := fun H7 b v o e => b v o (ne_of_none e fp3) (sZ _ _ (s7 _ _ e))
      refine ite2 (fun _ => ?_) (fun _ => ?_)
      · refine ⟨p, 4, 0, rfl, P.same sZ, by decide, by decide, by decide, fun H7 b => ⟨_, rfl, ?_⟩⟩
        show if (!true) = true then _ else _
        exact iteF ⟨fin H7 b, _, _, rfl⟩
      · refine ⟨p, 12, 0, rfl, P.same sZ, by decide, by decide, by decide, fun H7 b => ⟨_, rfl, ?_⟩⟩
        show if (!true) = true then _ else _
        exact iteF ⟨fin H7 b, _, _, rfl⟩
    · exact q H4
end
section
variable {l : PySem.W.OpenLaw} {w : World} {K : PySem.W.Frag} {h : Heap} {mg : PySem.Str → Option Value}
theorem all_mk {fa : Addr} (X : K.In h) (G : h.Ns mainGlobals mg) (hfa : mg "law" = some (.ref fa))
    {f__law_draw : Addr} {od__law_draw an__law_draw : Option Addr} {sl__law_draw : Array (Option Value)} {oc__law_draw kV__law_draw dc__law_draw pm__law_draw cd__law_draw ct__law_draw : Value}
    (a__law_draw : PySem.W.nsIn K mainGlobals "_law_draw" = some (some (.ref f__law_draw)))
    (l__law_draw : K.lookup f__law_draw = some ⟨oc__law_draw, od__law_draw, .func (PySem.W.fnOf "_law_draw" "_law_draw" (defArgs s__law_draw) (defBody s__law_draw) (defScope s__law_draw) .none kV__law_draw dc__law_draw pm__law_draw an__law_draw cd__law_draw ct__law_draw), sl__law_draw⟩)
    (c__law_draw : PySem.W.codeIn K cd__law_draw "_law_draw" = true) (k__law_draw : PySem.W.keepIn K (.ref f__law_draw) = true)
    {f__law_net : Addr} {od__law_net an__law_net : Option Addr} {sl__law_net : Array (Option Value)} {oc__law_net kV__law_net dc__law_net pm__law_net cd__law_net ct__law_net : Value}
    (a__law_net : PySem.W.nsIn K mainGlobals "_law_net" = some (some (.ref f__law_net)))
    (l__law_net : K.lookup f__law_net = some ⟨oc__law_net, od__law_net, .func (PySem.W.fnOf "_law_net" "_law_net" (defArgs s__law_net) (defBody s__law_net) (defScope s__law_net) .none kV__law_net dc__law_net pm__law_net an__law_net cd__law_net ct__law_net), sl__law_net⟩)
    (c__law_net : PySem.W.codeIn K cd__law_net "_law_net" = true) (k__law_net : PySem.W.keepIn K (.ref f__law_net) = true)
    {f__law_stroll : Addr} {od__law_stroll an__law_stroll : Option Addr} {sl__law_stroll : Array (Option Value)} {oc__law_stroll kV__law_stroll dc__law_stroll pm__law_stroll cd__law_stroll ct__law_stroll : Value}
    (a__law_stroll : PySem.W.nsIn K mainGlobals "_law_stroll" = some (some (.ref f__law_stroll)))
    (l__law_stroll : K.lookup f__law_stroll = some ⟨oc__law_stroll, od__law_stroll, .func (PySem.W.fnOf "_law_stroll" "_law_stroll" (defArgs s__law_stroll) (defBody s__law_stroll) (defScope s__law_stroll) .none kV__law_stroll dc__law_stroll pm__law_stroll an__law_stroll cd__law_stroll ct__law_stroll), sl__law_stroll⟩)
    (c__law_stroll : PySem.W.codeIn K cd__law_stroll "_law_stroll" = true) (k__law_stroll : PySem.W.keepIn K (.ref f__law_stroll) = true)
    {f__law_trail : Addr} {od__law_trail an__law_trail : Option Addr} {sl__law_trail : Array (Option Value)} {oc__law_trail kV__law_trail dc__law_trail pm__law_trail cd__law_trail ct__law_trail : Value}
    (a__law_trail : PySem.W.nsIn K mainGlobals "_law_trail" = some (some (.ref f__law_trail)))
    (l__law_trail : K.lookup f__law_trail = some ⟨oc__law_trail, od__law_trail, .func (PySem.W.fnOf "_law_trail" "_law_trail" (defArgs s__law_trail) (defBody s__law_trail) (defScope s__law_trail) .none kV__law_trail dc__law_trail pm__law_trail an__law_trail cd__law_trail ct__law_trail), sl__law_trail⟩)
    (c__law_trail : PySem.W.codeIn K cd__law_trail "_law_trail" = true) (k__law_trail : PySem.W.keepIn K (.ref f__law_trail) = true)
    {f_is_int : Addr} {od_is_int an_is_int : Option Addr} {sl_is_int : Array (Option Value)} {oc_is_int kV_is_int dc_is_int pm_is_int cd_is_int ct_is_int : Value}
    (a_is_int : PySem.W.nsIn K mainGlobals "is_int" = some (some (.ref f_is_int)))
    (l_is_int : K.lookup f_is_int = some ⟨oc_is_int, od_is_int, .func (PySem.W.fnOf "is_int" "is_int" (defArgs s_is_int) (defBody s_is_int) (defScope s_is_int) .none kV_is_int dc_is_int pm_is_int an_is_int cd_is_int ct_is_int), sl_is_int⟩)
    (c_is_int : PySem.W.codeIn K cd_is_int "is_int" = true) (k_is_int : PySem.W.keepIn K (.ref f_is_int) = true)
    {f_is_between : Addr} {od_is_between an_is_between : Option Addr} {sl_is_between : Array (Option Value)} {oc_is_between kV_is_between dc_is_between pm_is_between cd_is_between ct_is_between : Value}
    (a_is_between : PySem.W.nsIn K mainGlobals "is_between" = some (some (.ref f_is_between)))
    (l_is_between : K.lookup f_is_between = some ⟨oc_is_between, od_is_between, .func (PySem.W.fnOf "is_between" "is_between" (defArgs s_is_between) (defBody s_is_between) (defScope s_is_between) .none kV_is_between dc_is_between pm_is_between an_is_between cd_is_between ct_is_between), sl_is_between⟩)
    (c_is_between : PySem.W.codeIn K cd_is_between "is_between" = true) (k_is_between : PySem.W.keepIn K (.ref f_is_between) = true)
    {f_are_pages : Addr} {od_are_pages an_are_pages : Option Addr} {sl_are_pages : Array (Option Value)} {oc_are_pages kV_are_pages dc_are_pages pm_are_pages cd_are_pages ct_are_pages : Value}
    (a_are_pages : PySem.W.nsIn K mainGlobals "are_pages" = some (some (.ref f_are_pages)))
    (l_are_pages : K.lookup f_are_pages = some ⟨oc_are_pages, od_are_pages, .func (PySem.W.fnOf "are_pages" "are_pages" (defArgs s_are_pages) (defBody s_are_pages) (defScope s_are_pages) .none kV_are_pages dc_are_pages pm_are_pages an_are_pages cd_are_pages ct_are_pages), sl_are_pages⟩)
    (c_are_pages : PySem.W.codeIn K cd_are_pages "are_pages" = true) (k_are_pages : PySem.W.keepIn K (.ref f_are_pages) = true)
    {f__are_links : Addr} {od__are_links an__are_links : Option Addr} {sl__are_links : Array (Option Value)} {oc__are_links kV__are_links dc__are_links pm__are_links cd__are_links ct__are_links : Value}
    (a__are_links : PySem.W.nsIn K mainGlobals "_are_links" = some (some (.ref f__are_links)))
    (l__are_links : K.lookup f__are_links = some ⟨oc__are_links, od__are_links, .func (PySem.W.fnOf "_are_links" "_are_links" (defArgs s__are_links) (defBody s__are_links) (defScope s__are_links) .none kV__are_links dc__are_links pm__are_links an__are_links cd__are_links ct__are_links), sl__are_links⟩)
    (c__are_links : PySem.W.codeIn K cd__are_links "_are_links" = true) (k__are_links : PySem.W.keepIn K (.ref f__are_links) = true)
    {f_is_site : Addr} {od_is_site an_is_site : Option Addr} {sl_is_site : Array (Option Value)} {oc_is_site kV_is_site dc_is_site pm_is_site cd_is_site ct_is_site : Value}
    (a_is_site : PySem.W.nsIn K mainGlobals "is_site" = some (some (.ref f_is_site)))
    (l_is_site : K.lookup f_is_site = some ⟨oc_is_site, od_is_site, .func (PySem.W.fnOf "is_site" "is_site" (defArgs s_is_site) (defBody s_is_site) (defScope s_is_site) .none kV_is_site dc_is_site pm_is_site an_is_site cd_is_site ct_is_site), sl_is_site⟩)
    (c_is_site : PySem.W.codeIn K cd_is_site "is_site" = true) (k_is_site : PySem.W.keepIn K (.ref f_is_site) = true)
    {f_check_site : Addr} {od_check_site an_check_site : Option Addr} {sl_check_site : Array (Option Value)} {oc_check_site kV_check_site dc_check_site pm_check_site cd_check_site ct_check_site : Value}
    (a_check_site : PySem.W.nsIn K mainGlobals "check_site" = some (some (.ref f_check_site)))
    (l_check_site : K.lookup f_check_site = some ⟨oc_check_site, od_check_site, .func (PySem.W.fnOf "check_site" "check_site" (defArgs s_check_site) (defBody s_check_site) (defScope s_check_site) .none kV_check_site dc_check_site pm_check_site an_check_site cd_check_site ct_check_site), sl_check_site⟩)
    (c_check_site : PySem.W.codeIn K cd_check_site "check_site" = true) (k_check_site : PySem.W.keepIn K (.ref f_check_site) = true)
    {f__is_linked : Addr} {od__is_linked an__is_linked : Option Addr} {sl__is_linked : Array (Option Value)} {oc__is_linked kV__is_linked dc__is_linked pm__is_linked cd__is_linked ct__is_linked : Value}
    (a__is_linked : PySem.W.nsIn K mainGlobals "_is_linked" = some (some (.ref f__is_linked)))
    (l__is_linked : K.lookup f__is_linked = some ⟨oc__is_linked, od__is_linked, .func (PySem.W.fnOf "_is_linked" "_is_linked" (defArgs s__is_linked) (defBody s__is_linked) (defScope s__is_linked) .none kV__is_linked dc__is_linked pm__is_linked an__is_linked cd__is_linked ct__is_linked), sl__is_linked⟩)
    (c__is_linked : PySem.W.codeIn K cd__is_linked "_is_linked" = true) (k__is_linked : PySem.W.keepIn K (.ref f__is_linked) = true)
    {f_is_walk : Addr} {od_is_walk an_is_walk : Option Addr} {sl_is_walk : Array (Option Value)} {oc_is_walk kV_is_walk dc_is_walk pm_is_walk cd_is_walk ct_is_walk : Value}
    (a_is_walk : PySem.W.nsIn K mainGlobals "is_walk" = some (some (.ref f_is_walk)))
    (l_is_walk : K.lookup f_is_walk = some ⟨oc_is_walk, od_is_walk, .func (PySem.W.fnOf "is_walk" "is_walk" (defArgs s_is_walk) (defBody s_is_walk) (defScope s_is_walk) .none kV_is_walk dc_is_walk pm_is_walk an_is_walk cd_is_walk ct_is_walk), sl_is_walk⟩)
    (c_is_walk : PySem.W.codeIn K cd_is_walk "is_walk" = true) (k_is_walk : PySem.W.keepIn K (.ref f_is_walk) = true)
    {f_are_different_pages : Addr} {od_are_different_pages an_are_different_pages : Option Addr} {sl_are_different_pages : Array (Option Value)} {oc_are_different_pages kV_are_different_pages dc_are_different_pages pm_are_different_pages cd_are_different_pages ct_are_different_pages : Value}
    (a_are_different_pages : PySem.W.nsIn K mainGlobals "are_different_pages" = some (some (.ref f_are_different_pages)))
    (l_are_different_pages : K.lookup f_are_different_pages = some ⟨oc_are_different_pages, od_are_different_pages, .func (PySem.W.fnOf "are_different_pages" "are_different_pages" (defArgs s_are_different_pages) (defBody s_are_different_pages) (defScope s_are_different_pages) .none kV_are_different_pages dc_are_different_pages pm_are_different_pages an_are_different_pages cd_are_different_pages ct_are_different_pages), sl_are_different_pages⟩)
    (c_are_different_pages : PySem.W.codeIn K cd_are_different_pages "are_different_pages" = true) (k_are_different_pages : PySem.W.keepIn K (.ref f_are_different_pages) = true)
    {f_is_trail_of : Addr} {od_is_trail_of an_is_trail_of : Option Addr} {sl_is_trail_of : Array (Option Value)} {oc_is_trail_of kV_is_trail_of dc_is_trail_of pm_is_trail_of cd_is_trail_of ct_is_trail_of : Value}
    (a_is_trail_of : PySem.W.nsIn K mainGlobals "is_trail_of" = some (some (.ref f_is_trail_of)))
    (l_is_trail_of : K.lookup f_is_trail_of = some ⟨oc_is_trail_of, od_is_trail_of, .func (PySem.W.fnOf "is_trail_of" "is_trail_of" (defArgs s_is_trail_of) (defBody s_is_trail_of) (defScope s_is_trail_of) .none kV_is_trail_of dc_is_trail_of pm_is_trail_of an_is_trail_of cd_is_trail_of ct_is_trail_of), sl_is_trail_of⟩)
    (c_is_trail_of : PySem.W.codeIn K cd_is_trail_of "is_trail_of" = true) (k_is_trail_of : PySem.W.keepIn K (.ref f_is_trail_of) = true)
    {f__law_changed : Addr} {od__law_changed an__law_changed : Option Addr} {sl__law_changed : Array (Option Value)} {oc__law_changed kV__law_changed dc__law_changed pm__law_changed cd__law_changed ct__law_changed : Value}
    (a__law_changed : PySem.W.nsIn K mainGlobals "_law_changed" = some (some (.ref f__law_changed)))
    (l__law_changed : K.lookup f__law_changed = some ⟨oc__law_changed, od__law_changed, .func (PySem.W.fnOf "_law_changed" "_law_changed" (defArgs s__law_changed) (defBody s__law_changed) (defScope s__law_changed) .none kV__law_changed dc__law_changed pm__law_changed an__law_changed cd__law_changed ct__law_changed), sl__law_changed⟩)
    (c__law_changed : PySem.W.codeIn K cd__law_changed "_law_changed" = true) (k__law_changed : PySem.W.keepIn K (.ref f__law_changed) = true)
    {f__law_linked : Addr} {od__law_linked an__law_linked : Option Addr} {sl__law_linked : Array (Option Value)} {oc__law_linked kV__law_linked dc__law_linked pm__law_linked cd__law_linked ct__law_linked : Value}
    (a__law_linked : PySem.W.nsIn K mainGlobals "_law_linked" = some (some (.ref f__law_linked)))
    (l__law_linked : K.lookup f__law_linked = some ⟨oc__law_linked, od__law_linked, .func (PySem.W.fnOf "_law_linked" "_law_linked" (defArgs s__law_linked) (defBody s__law_linked) (defScope s__law_linked) .none kV__law_linked dc__law_linked pm__law_linked an__law_linked cd__law_linked ct__law_linked), sl__law_linked⟩)
    (c__law_linked : PySem.W.codeIn K cd__law_linked "_law_linked" = true) (k__law_linked : PySem.W.keepIn K (.ref f__law_linked) = true)
    {f__law_holds : Addr} {od__law_holds an__law_holds : Option Addr} {sl__law_holds : Array (Option Value)} {oc__law_holds kV__law_holds dc__law_holds pm__law_holds cd__law_holds ct__law_holds : Value}
    (a__law_holds : PySem.W.nsIn K mainGlobals "_law_holds" = some (some (.ref f__law_holds)))
    (l__law_holds : K.lookup f__law_holds = some ⟨oc__law_holds, od__law_holds, .func (PySem.W.fnOf "_law_holds" "_law_holds" (defArgs s__law_holds) (defBody s__law_holds) (defScope s__law_holds) .none kV__law_holds dc__law_holds pm__law_holds an__law_holds cd__law_holds ct__law_holds), sl__law_holds⟩)
    (c__law_holds : PySem.W.codeIn K cd__law_holds "_law_holds" = true) (k__law_holds : PySem.W.keepIn K (.ref f__law_holds) = true)
    {f__law_source : Addr} {od__law_source an__law_source : Option Addr} {sl__law_source : Array (Option Value)} {oc__law_source kV__law_source dc__law_source pm__law_source cd__law_source ct__law_source : Value}
    (a__law_source : PySem.W.nsIn K mainGlobals "_law_source" = some (some (.ref f__law_source)))
    (l__law_source : K.lookup f__law_source = some ⟨oc__law_source, od__law_source, .func (PySem.W.fnOf "_law_source" "_law_source" (defArgs s__law_source) (defBody s__law_source) (defScope s__law_source) .none kV__law_source dc__law_source pm__law_source an__law_source cd__law_source ct__law_source), sl__law_source⟩)
    (c__law_source : PySem.W.codeIn K cd__law_source "_law_source" = true) (k__law_source : PySem.W.keepIn K (.ref f__law_source) = true)
    {f_law : Addr} {od_law an_law : Option Addr} {sl_law : Array (Option Value)} {oc_law kV_law dc_law pm_law cd_law ct_law : Value}
    (a_law : PySem.W.nsIn K mainGlobals "law" = some (some (.ref f_law)))
    (l_law : K.lookup f_law = some ⟨oc_law, od_law, .func (PySem.W.fnOf "law" "law" (defArgs s_law) (defBody s_law) (defScope s_law) .none kV_law dc_law pm_law an_law cd_law ct_law), sl_law⟩)
    (c_law : PySem.W.codeIn K cd_law "law" = true) (k_law : PySem.W.keepIn K (.ref f_law) = true)
    {t_MOST_PAGES : Tok} (v_MOST_PAGES : PySem.W.nsIn K mainGlobals "MOST_PAGES" = some (some (.int (12) t_MOST_PAGES)))
    {t_MOST_STEPS : Tok} (v_MOST_STEPS : PySem.W.nsIn K mainGlobals "MOST_STEPS" = some (some (.int (60) t_MOST_STEPS)))
    (z_range : PySem.W.nsIn K mainGlobals "range" = some none)
    (z_int : PySem.W.nsIn K mainGlobals "int" = some none)
    (z_min : PySem.W.nsIn K mainGlobals "min" = some none)
    (z_abs : PySem.W.nsIn K mainGlobals "abs" = some none)
    (z_len : PySem.W.nsIn K mainGlobals "len" = some none)
    (z_isinstance : PySem.W.nsIn K mainGlobals "isinstance" = some none)
    (z_bool : PySem.W.nsIn K mainGlobals "bool" = some none)
    (z_list : PySem.W.nsIn K mainGlobals "list" = some none)
    (z_all : PySem.W.nsIn K mainGlobals "all" = some none)
    (z_sorted : PySem.W.nsIn K mainGlobals "sorted" = some none)
    (z_set : PySem.W.nsIn K mainGlobals "set" = some none)
    (z_enumerate : PySem.W.nsIn K mainGlobals "enumerate" = some none)
    (z_zip : PySem.W.nsIn K mainGlobals "zip" = some none)
    (z_tuple : PySem.W.nsIn K mainGlobals "tuple" = some none)
    (z_repr : PySem.W.nsIn K mainGlobals "repr" = some none)
    (z_max : PySem.W.nsIn K mainGlobals "max" = some none) :
    ∃ fd : FuncData, (∀ (s : Shared) (v : Value), BindsTo s fd ⟨[v], []⟩ [("_law_script", v)]) ∧ ∀ base : Heap, K.In base → base.Ns mainGlobals mg → FnG l.prog w K mg base CX0 9 fa fd ["_law_script"] (sp_law K) := by
  have e := hfa.symm.trans (PySem.W.mg_of X G a_law)
  cases e
  let T : Top K mg := {
    a__law_draw := f__law_draw, d__law_draw := _, F__law_draw := fun_mk l__law_draw c__law_draw k__law_draw, g__law_draw := PySem.W.mg_of X G a__law_draw,
    b__law_draw := (fun_mk (st := s__law_draw) l__law_draw c__law_draw k__law_draw).binds (ps := ["_law_source_here", "_law_count"]) fun _ _ _ _ _ _ us hl => match us, hl with | [_, _], _ => rfl,
    a__law_net := f__law_net, d__law_net := _, F__law_net := fun_mk l__law_net c__law_net k__law_net, g__law_net := PySem.W.mg_of X G a__law_net,
    b__law_net := (fun_mk (st := s__law_net) l__law_net c__law_net k__law_net).binds (ps := ["_law_source_here", "_law_most"]) fun _ _ _ _ _ _ us hl => match us, hl with | [_, _], _ => rfl,
    a__law_stroll := f__law_stroll, d__law_stroll := _, F__law_stroll := fun_mk l__law_stroll c__law_stroll k__law_stroll, g__law_stroll := PySem.W.mg_of X G a__law_stroll,
    b__law_stroll := (fun_mk (st := s__law_stroll) l__law_stroll c__law_stroll k__law_stroll).binds (ps := ["_law_source_here", "_law_net_here", "_law_most"]) fun _ _ _ _ _ _ us hl => match us, hl with | [_, _, _], _ => rfl,
    a__law_trail := f__law_trail, d__law_trail := _, F__law_trail := fun_mk l__law_trail c__law_trail k__law_trail, g__law_trail := PySem.W.mg_of X G a__law_trail,
    b__law_trail := (fun_mk (st := s__law_trail) l__law_trail c__law_trail k__law_trail).binds (ps := ["_law_row"]) fun _ _ _ _ _ _ us hl => match us, hl with | [_], _ => rfl,
    a_is_int := f_is_int, d_is_int := _, F_is_int := fun_mk l_is_int c_is_int k_is_int, g_is_int := PySem.W.mg_of X G a_is_int,
    b_is_int := (fun_mk (st := s_is_int) l_is_int c_is_int k_is_int).binds (ps := ["value"]) fun _ _ _ _ _ _ us hl => match us, hl with | [_], _ => rfl,
    a_is_between := f_is_between, d_is_between := _, F_is_between := fun_mk l_is_between c_is_between k_is_between, g_is_between := PySem.W.mg_of X G a_is_between,
    b_is_between := (fun_mk (st := s_is_between) l_is_between c_is_between k_is_between).binds (ps := ["value", "low", "high"]) fun _ _ _ _ _ _ us hl => match us, hl with | [_, _, _], _ => rfl,
    a_are_pages := f_are_pages, d_are_pages := _, F_are_pages := fun_mk l_are_pages c_are_pages k_are_pages, g_are_pages := PySem.W.mg_of X G a_are_pages,
    b_are_pages := (fun_mk (st := s_are_pages) l_are_pages c_are_pages k_are_pages).binds (ps := ["value", "many"]) fun _ _ _ _ _ _ us hl => match us, hl with | [_, _], _ => rfl,
    a__are_links := f__are_links, d__are_links := _, F__are_links := fun_mk l__are_links c__are_links k__are_links, g__are_links := PySem.W.mg_of X G a__are_links,
    b__are_links := (fun_mk (st := s__are_links) l__are_links c__are_links k__are_links).binds (ps := ["value", "page", "many"]) fun _ _ _ _ _ _ us hl => match us, hl with | [_, _, _], _ => rfl,
    a_is_site := f_is_site, d_is_site := _, F_is_site := fun_mk l_is_site c_is_site k_is_site, g_is_site := PySem.W.mg_of X G a_is_site,
    b_is_site := (fun_mk (st := s_is_site) l_is_site c_is_site k_is_site).binds (ps := ["value"]) fun _ _ _ _ _ _ us hl => match us, hl with | [_], _ => rfl,
    a_check_site := f_check_site, d_check_site := _, F_check_site := fun_mk l_check_site c_check_site k_check_site, g_check_site := PySem.W.mg_of X G a_check_site,
    b_check_site := (fun_mk (st := s_check_site) l_check_site c_check_site k_check_site).binds (ps := ["site"]) fun _ _ _ _ _ _ us hl => match us, hl with | [_], _ => rfl,
    a__is_linked := f__is_linked, d__is_linked := _, F__is_linked := fun_mk l__is_linked c__is_linked k__is_linked, g__is_linked := PySem.W.mg_of X G a__is_linked,
    b__is_linked := (fun_mk (st := s__is_linked) l__is_linked c__is_linked k__is_linked).binds (ps := ["site", "pages"]) fun _ _ _ _ _ _ us hl => match us, hl with | [_, _], _ => rfl,
    a_is_walk := f_is_walk, d_is_walk := _, F_is_walk := fun_mk l_is_walk c_is_walk k_is_walk, g_is_walk := PySem.W.mg_of X G a_is_walk,
    b_is_walk := (fun_mk (st := s_is_walk) l_is_walk c_is_walk k_is_walk).binds (ps := ["site", "value"]) fun _ _ _ _ _ _ us hl => match us, hl with | [_, _], _ => rfl,
    a_are_different_pages := f_are_different_pages, d_are_different_pages := _, F_are_different_pages := fun_mk l_are_different_pages c_are_different_pages k_are_different_pages, g_are_different_pages := PySem.W.mg_of X G a_are_different_pages,
    b_are_different_pages := (fun_mk (st := s_are_different_pages) l_are_different_pages c_are_different_pages k_are_different_pages).binds (ps := ["value", "many"]) fun _ _ _ _ _ _ us hl => match us, hl with | [_, _], _ => rfl,
    a_is_trail_of := f_is_trail_of, d_is_trail_of := _, F_is_trail_of := fun_mk l_is_trail_of c_is_trail_of k_is_trail_of, g_is_trail_of := PySem.W.mg_of X G a_is_trail_of,
    b_is_trail_of := (fun_mk (st := s_is_trail_of) l_is_trail_of c_is_trail_of k_is_trail_of).binds (ps := ["site", "value"]) fun _ _ _ _ _ _ us hl => match us, hl with | [_, _], _ => rfl,
    a__law_changed := f__law_changed, d__law_changed := _, F__law_changed := fun_mk l__law_changed c__law_changed k__law_changed, g__law_changed := PySem.W.mg_of X G a__law_changed,
    b__law_changed := (fun_mk (st := s__law_changed) l__law_changed c__law_changed k__law_changed).binds (ps := ["_law_source_here", "_law_net_here", "_law_row"]) fun _ _ _ _ _ _ us hl => match us, hl with | [_, _, _], _ => rfl,
    a__law_linked := f__law_linked, d__law_linked := _, F__law_linked := fun_mk l__law_linked c__law_linked k__law_linked, g__law_linked := PySem.W.mg_of X G a__law_linked,
    b__law_linked := (fun_mk (st := s__law_linked) l__law_linked c__law_linked k__law_linked).binds (ps := ["_law_net_here", "_law_value"]) fun _ _ _ _ _ _ us hl => match us, hl with | [_, _], _ => rfl,
    a__law_holds := f__law_holds, d__law_holds := _, F__law_holds := fun_mk l__law_holds c__law_holds k__law_holds, g__law_holds := PySem.W.mg_of X G a__law_holds,
    b__law_holds := (fun_mk (st := s__law_holds) l__law_holds c__law_holds k__law_holds).binds (ps := ["_law_source_here", "_law_most"]) fun _ _ _ _ _ _ us hl => match us, hl with | [_, _], _ => rfl,
    a__law_source := f__law_source, d__law_source := _, F__law_source := fun_mk l__law_source c__law_source k__law_source, g__law_source := PySem.W.mg_of X G a__law_source,
    b__law_source := (fun_mk (st := s__law_source) l__law_source c__law_source k__law_source).binds (ps := ["_law_cell", "_law_k"]) fun _ _ _ _ _ _ us hl => match us, hl with | [_, _], _ => rfl,
    a_law := fa, d_law := _, F_law := fun_mk l_law c_law k_law, g_law := PySem.W.mg_of X G a_law,
    b_law := (fun_mk (st := s_law) l_law c_law k_law).binds (ps := ["_law_script"]) fun _ _ _ _ _ _ us hl => match us, hl with | [_], _ => rfl,
    t_MOST_PAGES := t_MOST_PAGES, g_MOST_PAGES := PySem.W.mg_of X G v_MOST_PAGES,
    t_MOST_STEPS := t_MOST_STEPS, g_MOST_STEPS := PySem.W.mg_of X G v_MOST_STEPS,
    n_range := PySem.W.mg_none_of X G z_range,
    n_int := PySem.W.mg_none_of X G z_int,
    n_min := PySem.W.mg_none_of X G z_min,
    n_abs := PySem.W.mg_none_of X G z_abs,
    n_len := PySem.W.mg_none_of X G z_len,
    n_isinstance := PySem.W.mg_none_of X G z_isinstance,
    n_bool := PySem.W.mg_none_of X G z_bool,
    n_list := PySem.W.mg_none_of X G z_list,
    n_all := PySem.W.mg_none_of X G z_all,
    n_sorted := PySem.W.mg_none_of X G z_sorted,
    n_set := PySem.W.mg_none_of X G z_set,
    n_enumerate := PySem.W.mg_none_of X G z_enumerate,
    n_zip := PySem.W.mg_none_of X G z_zip,
    n_tuple := PySem.W.mg_none_of X G z_tuple,
    n_repr := PySem.W.mg_none_of X G z_repr,
    n_max := PySem.W.mg_none_of X G z_max }
  refine ⟨T.d_law, fun s v => .of_eq rfl, fun base _ _ => ?_⟩
  have G__law_draw := ok__law_draw (P := l.prog) (w := w) (base := base) T 
  have G__law_net := ok__law_net (P := l.prog) (w := w) (base := base) T G__law_draw
  have G__law_stroll := ok__law_stroll (P := l.prog) (w := w) (base := base) T G__law_draw
  have G__law_trail := ok__law_trail (P := l.prog) (w := w) (base := base) T 
  have G_is_int := ok_is_int (P := l.prog) (w := w) (base := base) T 
  have G_is_between := ok_is_between (P := l.prog) (w := w) (base := base) T G_is_int
  have G_are_pages := ok_are_pages (P := l.prog) (w := w) (base := base) T G_is_between
  have G__are_links := ok__are_links (P := l.prog) (w := w) (base := base) T G_are_pages
  have G_is_site := ok_is_site (P := l.prog) (w := w) (base := base) T G__are_links
  have G_check_site := ok_check_site (P := l.prog) (w := w) (base := base) T G_is_site
  have G__is_linked := ok__is_linked (P := l.prog) (w := w) (base := base) T 
  have G_is_walk := ok_is_walk (P := l.prog) (w := w) (base := base) T G_check_site G__is_linked G_are_pages
  have G_are_different_pages := ok_are_different_pages (P := l.prog) (w := w) (base := base) T G_are_pages
  have G_is_trail_of := ok_is_trail_of (P := l.prog) (w := w) (base := base) T G_check_site G__is_linked G_are_different_pages
  have G__law_changed := ok__law_changed (P := l.prog) (w := w) (base := base) T G__law_draw
  have G__law_linked := ok__law_linked (P := l.prog) (w := w) (base := base) T 
  have G__law_holds := ok__law_holds (P := l.prog) (w := w) (base := base) T G__law_net G__law_stroll G__law_trail G_is_walk G_is_trail_of G__law_changed G__law_draw G__law_linked
  have G__law_source := ok__law_source (P := l.prog) (w := w) (base := base) T 
  have G_law := ok_law (P := l.prog) (w := w) (base := base) T G__law_holds G__law_source
  exact G_law
end
end Vf
open PySem PySem.W PyProof.Rows
set_option maxHeartbeats 0 in
theorem PySem.Challenge.cw_breadcrumbs_k02_walks_and_trails_of_site_holds : PySem.Challenge.rw_breadcrumbs_k02_walks_and_trails_of_site.Holds := by
  w_on; o_law; k_head; (case hw => w_witness2)
  k_fill
  refine Vf.walk_ofG (l := PySem.Challenge.rw_breadcrumbs_k02_walks_and_trails_of_site) (n := 63) (k := 9) (x := "_law_script") (sp := Vf.sp_law) rfl (by decide) rfl ⟨rfl, by decide, by decide⟩ (fun w h Y => PySem.W.kIn_of Y) ?F (fun K H a ns hl hS one => ⟨a, ns, rfl, hS, hl, one, fun _ => rfl⟩)
  case F =>
    intro w mg fa h KX G hmg
    refine' Vf.all_mk KX G hmg ?a__law_draw ?l__law_draw ?c__law_draw ?k__law_draw ?a__law_net ?l__law_net ?c__law_net ?k__law_net ?a__law_stroll ?l__law_stroll ?c__law_stroll ?k__law_stroll ?a__law_trail ?l__law_trail ?c__law_trail ?k__law_trail ?a_is_int ?l_is_int ?c_is_int ?k_is_int ?a_is_between ?l_is_between ?c_is_between ?k_is_between ?a_are_pages ?l_are_pages ?c_are_pages ?k_are_pages ?a__are_links ?l__are_links ?c__are_links ?k__are_links ?a_is_site ?l_is_site ?c_is_site ?k_is_site ?a_check_site ?l_check_site ?c_check_site ?k_check_site ?a__is_linked ?l__is_linked ?c__is_linked ?k__is_linked ?a_is_walk ?l_is_walk ?c_is_walk ?k_is_walk ?a_are_different_pages ?l_are_different_pages ?c_are_different_pages ?k_are_different_pages ?a_is_trail_of ?l_is_trail_of ?c_is_trail_of ?k_is_trail_of ?a__law_changed ?l__law_changed ?c__law_changed ?k__law_changed ?a__law_linked ?l__law_linked ?c__law_linked ?k__law_linked ?a__law_holds ?l__law_holds ?c__law_holds ?k__law_holds ?a__law_source ?l__law_source ?c__law_source ?k__law_source ?a_law ?l_law ?c_law ?k_law ?v_MOST_PAGES ?v_MOST_STEPS ?z_range ?z_int ?z_min ?z_abs ?z_len ?z_isinstance ?z_bool ?z_list ?z_all ?z_sorted ?z_set ?z_enumerate ?z_zip ?z_tuple ?z_repr ?z_max
    (case a__law_draw => k_is); (case l__law_draw => k_is); (case c__law_draw => k_is); (case k__law_draw => k_is); (case a__law_net => k_is); (case l__law_net => k_is); (case c__law_net => k_is); (case k__law_net => k_is); (case a__law_stroll => k_is); (case l__law_stroll => k_is); (case c__law_stroll => k_is); (case k__law_stroll => k_is); (case a__law_trail => k_is); (case l__law_trail => k_is); (case c__law_trail => k_is); (case k__law_trail => k_is); (case a_is_int => k_is); (case l_is_int => k_is); (case c_is_int => k_is); (case k_is_int => k_is); (case a_is_between => k_is); (case l_is_between => k_is); (case c_is_between => k_is); (case k_is_between => k_is); (case a_are_pages => k_is); (case l_are_pages => k_is); (case c_are_pages => k_is); (case k_are_pages => k_is); (case a__are_links => k_is); (case l__are_links => k_is); (case c__are_links => k_is); (case k__are_links => k_is); (case a_is_site => k_is); (case l_is_site => k_is); (case c_is_site => k_is); (case k_is_site => k_is); (case a_check_site => k_is); (case l_check_site => k_is); (case c_check_site => k_is); (case k_check_site => k_is); (case a__is_linked => k_is); (case l__is_linked => k_is); (case c__is_linked => k_is); (case k__is_linked => k_is); (case a_is_walk => k_is); (case l_is_walk => k_is); (case c_is_walk => k_is); (case k_is_walk => k_is); (case a_are_different_pages => k_is); (case l_are_different_pages => k_is); (case c_are_different_pages => k_is); (case k_are_different_pages => k_is); (case a_is_trail_of => k_is); (case l_is_trail_of => k_is); (case c_is_trail_of => k_is); (case k_is_trail_of => k_is); (case a__law_changed => k_is); (case l__law_changed => k_is); (case c__law_changed => k_is); (case k__law_changed => k_is); (case a__law_linked => k_is); (case l__law_linked => k_is); (case c__law_linked => k_is); (case k__law_linked => k_is); (case a__law_holds => k_is); (case l__law_holds => k_is); (case c__law_holds => k_is); (case k__law_holds => k_is); (case a__law_source => k_is); (case l__law_source => k_is); (case c__law_source => k_is); (case k__law_source => k_is); (case a_law => k_is); (case l_law => k_is); (case c_law => k_is); (case k_law => k_is); (case v_MOST_PAGES => k_is); (case v_MOST_STEPS => k_is); (case z_range => k_is); (case z_int => k_is); (case z_min => k_is); (case z_abs => k_is); (case z_len => k_is); (case z_isinstance => k_is); (case z_bool => k_is); (case z_list => k_is); (case z_all => k_is); (case z_sorted => k_is); (case z_set => k_is); (case z_enumerate => k_is); (case z_zip => k_is); (case z_tuple => k_is); (case z_repr => k_is); (case z_max => k_is)
