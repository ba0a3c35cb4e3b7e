import PyProof.Rows.All
import Wide.All
import OpenK.AllK
import Wide.FinOn
import HandS.ForMost
import HandS.Wide
import HandS.IsInst
import HandS.EndBits
import HandS.Defaults
import HandS.Star
import HandS.Style
import HandS.Codes
import HandS.Conv
import PyProof.ReprBulk
import HandS.SetFor
import HandS.Strs
import PySem.Challenge.RW_breadcrumbs_k01_sites_recognized
set_option Elab.async false
set_option linter.all false
set_option maxRecDepth 100000
/-! own rules: defs that may show data by repr, great powers, sets, calls by names alone -/
namespace Vf
open PySem PySem.Spec PyProof.Rows L2

/-! ### a def whose callers stand in no repr -/
structure FnG (P : Program) (w : World) (K : PySem.W.Frag) (mg : Str → Option Value) (base : Heap)
    (CX : CXT) (k : Nat) (f : Addr) (fd : FuncData) (ps : List Str) (sp : Sp) : Prop where
  len : ∀ vs H Q E, sp vs H Q E → vs.length = ps.length
  run : ∀ (A : Around), A.guards = some [] → Room k A →
    ∀ (outer : List Env) (s : Shared) (H : Hp) (args : Args) (us : List Value) (vs : List V) (Q : VK) (E : XK),
      Env0 P w K mg base A outer s H → BindsTo s fd args (ps.zip us) → Vals vs us → sp vs H Q E →
      codeAny (model P w) A (.call (.ref f) args) (CR CX outer P w H s Q E) s

section
variable {CX : CXT} {P : Program} {w : World} {K : PySem.W.Frag} {mg : Str → Option Value} {base : Heap} {k : Nat}
theorem FnG.of {f : Addr} {fd : FuncData} {ps : List Str} {sp : Sp}
    (F : FnOk P w K mg base CX k f fd ps sp) : FnG P w K mg base CX k f fd ps sp where
  len := F.len
  run := fun A _ hr outer s H args us vs Q E => F.run A outer s H args us vs Q E hr
theorem FnG.mono {j : Nat} {f : Addr} {fd : FuncData} {ps : List Str} {sp : Sp}
    (F : FnG P w K mg base CX j f fd ps sp) (h : j ≤ k) : FnG P w K mg base CX k f fd ps sp where
  len := F.len
  run := fun A g hr => F.run A g (hr.mono h)

/-- a def's body, run where the guards are known to be none -/
theorem Fun_okG {x qual : Str} {st : Stmt} {f : Addr} {fd : FuncData} {N ps : List Str} {sp : Sp}
    (F : Fun K x qual st f fd) (S : FnScope N ps (defScope st)) (len : ∀ vs H Q E, sp vs H Q E → vs.length = ps.length)
    (body : ∀ (cdv : Value) (A : Around) (outer : List Env) (s : Shared) (H : Hp) (vs : List V) (Q : VK) (E : XK),
      A.guards = some [] → Room k (A.deeper (envOfC qual (defScope st) s.heap.objs.size f cdv)) → sp vs H Q E →
      ∃ t, PSs (cxOf CX P w K mg base N qual (defScope st) f cdv A outer s H E).nox (defBody st) t ∧
        t { nx := fun _ H' => Q .non H', rt := Q } (start N vs) H) :
    FnG P w K mg base CX (k + 1) f fd ps sp := by
  obtain ⟨oc, od, kV, doc, pm, an, cdv, ct, osl, rfl, lk, hcd⟩ := F.ex
  refine ⟨len, fun A hg hr outer s H args us vs Q E e0 hb r hsp => ?_⟩
  have KX : K.In s.heap := e0.mod.kin.keeps fun b o e => (e0.bs b o e).1
  have hkind : ∀ y ∈ ps.zip us, (defScope st).names.lookup y.1 = some .local ∨
      ((defScope st).names.lookup y.1 = some .cell ∧
        ((cellsFrom (s.heap.objs.size + 1) (defScope st).names []).lookup y.1).isSome = true) := by
    rintro ⟨n, v⟩ hy
    rcases S.par n (List.of_mem_zip hy).1 with q | q
    · exact Or.inl q
    · exact Or.inr ⟨q, PySem.W.cellsFrom_some _ _ _ (Or.inl q)⟩
  refine codeAny_call_function hr.depth (KX _ _ lk) rfl S.co S.gen rfl (PySem.W.codeRec_of KX hcd)
    (hb _ _ _ _ (wpAny_newFunctionEnv_cells S.kind hkind fun env he s1 x => ?_))
  subst he
  refine ⟨(e0.mod.nolimit.keeps fun b o e => (e0.bs b o e).1).keeps x.toInCall.keep, codeAny_func ?_⟩
  obtain ⟨t, ht, hq⟩ := body cdv A outer s H vs Q E hg (hr.deeper _) hsp
  have I := inv_start (CX := CX) (E := E) S hr.hd e0 (len _ _ _ _ hsp) r x
  refine wpAny_mono (ht.nox.run [] s1 (start N vs) H _ I hq) (fun fl s' hs => ?_) (fun e s' hs => hs)
  have fin : ∀ {σ' : L2.St} {H' : Hp} {v : V} {u : Value}, Inv (cxOf CX P w K mg base N qual (defScope st) f cdv A outer s H E) [] σ' H' s' →
      RelV v u → Q v H' → CE outer P w H s Q u s' := fun {σ' H' v u} J rv q =>
    ⟨v, H', J.os, J.bare, J.base, J.hok, rv, q⟩
  match fl, hs with
  | .ret u, ⟨v, σ', H', J, rv, q⟩ => exact fin J rv q
  | .next, ⟨σ', H', J, q⟩ => exact fin (v := V.non) (u := Value.none) J rfl q
  | .brk, ⟨_, _, _, q⟩ => exact q.elim
  | .cont, ⟨_, _, _, q⟩ => exact q.elim
end

/-! ### the call of such a def -/
section
variable {X : Cx} {CX : CXT} {k : Nat} {f : Addr} {fd : FuncData} {ps ks : List Str} {sp : Sp} {dvs : List V} {ds : List Value}
  {E : XK} {x : Str} {p pos : Pos} {e : Expr} {es : List Expr} {kws : List Keyword} {t tk : TA}
theorem run_fnG {pins : List (Addr × Obj)} {σ : L2.St} {H : Hp} {s : Shared} {Q : VK} {us : List Value} {vs : List V}
    (F : FnG X.prog X.w X.K X.mg X.base CX k f fd ps sp) (hg : X.A.guards = some []) (hr : Room k X.A) (hb : Binds X.K fd ps ds)
    (hd : Vals dvs ds) (hx : Passes CX X E) (I : Inv X pins σ H s) (r : Vals vs us) (h : sp (vs ++ dvs) H Q E) :
    wpAny (model X.prog X.w) X.A (call (.ref f) us) (EP X pins σ Q) X.xe s := by
  have r2 : Vals (vs ++ dvs) (us ++ ds) := Vals.append r hd
  have hl : (us ++ ds).length = ps.length := r2.length ▸ F.len _ _ _ _ h
  refine wpAny_call (codeAny_mono (F.run X.A hg hr X.stack s H ⟨us, []⟩ (us ++ ds) (vs ++ dvs) Q E I.env0 (hb s us I.kIn hl) r2 h) fun res s' hq => ?_)
  match res, hq with
  | .error e, hq => exact hx pins σ H s e s' I hq
  | .ok (.ret u), hq => exact I.after hq
  | .ok .next, hq => exact hq.elim
  | .ok .brk, hq => exact hq.elim
  | .ok .cont, hq => exact hq.elim
theorem pe_callG (F : FnG X.prog X.w X.K X.mg X.base CX k f fd ps sp) (hG : X.A.guards = some []) (hr : Room k X.A)
    (hg : Gl X x) (hm : X.mg x = some (.ref f)) (hk : PySem.W.keepIn X.K (.ref f) = true) (hb : Binds X.K fd ps ds)
    (hd : Vals dvs ds) (hx : Passes CX X E) (ha : PA X (e :: es) t)
    (hdb : (x == ("__debug__" : Str)) = false := by decide)
    (he : starEach (e :: es) X.env = (false, eval e X.env) :: starEach es X.env := by rfl)
    (hpl : (backTo pos (starEach es X.env)).any (·.1) = false := by rfl) :
    PE X (.Call (.Name x p) (e :: es) [] pos) (tCall sp dvs E t) :=
  ⟨fun pins s σ H Q I h => wpAny_Call_Name_kw (ld_glob I hg hm
    (PySem.W.callWith_K (h₀ := X.base) I.ok.mod.kin hk (thn (ha.run pos pins s σ H _ I h)
      fun us s1 ⟨vs, H1, I1, r, q⟩ => ⟨I1.kIn, run_fnG F hG hr hb hd hx I1 r q⟩) he hpl) hdb)⟩

/-- f(k = v, ..), nothing by place -/
def tCallK0 (sp : Sp) (gV : List V → List V) (E : XK) (tk : TA) : TE := fun σ H Q => tk σ H fun zs H2 => sp (gV zs) H2 Q E
structure KBinds0 (K : PySem.W.Frag) (fd : FuncData) (ps ks : List Str) (gV : List V → List V) : Prop where
  to : ∀ (s : Shared) (zs : List V) (ws : List Value), K.In s.heap → Vals zs ws → (gV zs).length = ps.length →
    ∃ us : List Value, Vals (gV zs) us ∧ BindsTo s fd ⟨[], ks.zip ws⟩ (ps.zip us)
theorem pe_callK0 {gV : List V → List V} (F : FnOk X.prog X.w X.K X.mg X.base CX k f fd ps sp) (hr : Room k X.A)
    (hg : Gl X x) (hm : X.mg x = some (.ref f)) (hk : PySem.W.keepIn X.K (.ref f) = true) (hb : KBinds0 X.K fd ps ks gV)
    (hx : Passes CX X E) (hkw : PK X kws tk) (hall : (backToKw pos (keywordEach kws X.env)).all (·.1.isSome) = true := by rfl)
    (hks : (backToKw pos (keywordEach kws X.env)).filterMap (·.1) = ks := by rfl) (hdb : (x == ("__debug__" : Str)) = false := by decide)
    (hpl : ((backTo pos (starEach [] X.env)).any (·.1) || (backToKw pos (keywordEach kws X.env)).any (·.1.isNone)) = false := by rfl) :
    PE X (.Call (.Name x p) [] kws pos) (tCallK0 sp gV E tk) := by
  refine ⟨fun pins s σ H Q I h => wpAny_Call_Name_kw (ld_glob I hg hm ?_ hdb)⟩
  refine PySem.W.callWith_KW0 (h₀ := X.base) I.ok.mod.kin hk hall (thn (hkw.run pos pins s σ H _ I h) fun ws s2 ⟨zs, H2, I2, rz, q2⟩ => ⟨I2.kIn, ?_⟩) hpl
  rw [hks]
  obtain ⟨us, r, hbt⟩ := hb.to s2 zs ws I2.kIn rz (F.len _ _ _ _ q2)
  refine wpAny_call (codeAny_mono (F.run X.A X.stack s2 H2 ⟨[], ks.zip ws⟩ us (gV zs) Q E hr I2.env0 hbt r q2) fun res s' hq => ?_)
  match res, hq with
  | .error e, hq => exact hx pins σ H2 s2 e s' I2 hq
  | .ok (.ret u), hq => exact I2.after hq
  | .ok .next, hq => exact hq.elim
  | .ok .brk, hq => exact hq.elim
  | .ok .cont, hq => exact hq.elim
end

/-! ### operators -/
section
variable {X : Cx}
def CPowG (i j : Int) : Prop := 0 ≤ j ∧ (Builtin.Int.intBits i : Int) * j ≤ 2 ^ 27
theorem op_powG : OpR X (binaryOp .Pow) (rI CPowG fun i j => .int (i ^ j.toNat)) :=
  opI fun _ _ _ _ _ _ _ hc q => pow_int hc.1 hc.2 q
theorem cube_ok {i : Int} {n : Nat} (h : i.natAbs < 2 ^ n) (hn : n ≤ 1000000) : CPowG i 3 := by
  refine ⟨by decide, ?_⟩
  have b : Builtin.Int.intBits i ≤ n + 1 := by
    unfold Builtin.Int.intBits
    split
    · omega
    · rename_i h0
      have hz : i.natAbs ≠ 0 := fun z => h0 (by rw [Int.natAbs_eq_zero.mp z]; rfl)
      have := (Nat.log2_lt hz).mpr h
      omega
  have e : (2 : Int) ^ 27 = 134217728 := by decide
  rw [e]
  omega

/-- repr(x), x a list or a tuple of data -/
def rShow (K : PySem.W.Frag) : List V → Hp → VK → Prop := fun xs H Q => ∃ (a : Addr) (d : PyData), xs = [.ref a] ∧ Dp K H (.ref a) d ∧
  d.showable = true ∧ d.hasDict = false ∧ d.depth ≤ 100 ∧ d.shown.length ≤ sizeLine ∧ Q (.str d.shown) H
theorem call_show (hG : X.A.guards = some []) (hu : X.A.units + 200 < cLine) : CallR X (.builtin "repr") (rShow X.K) := by
  intro pins s σ H xs us Q I r h
  obtain ⟨a, d, rfl, hd, h1, h2, h3, h4, q⟩ := h
  obtain ⟨u, rfl, rx⟩ := vals1 r
  obtain ⟨as, hr⟩ := Dp.reads I d _ u hd rx
  cases (show u = Value.ref a from rx)
  exact repr_of_reads' hr h1 (PyData.noDict_hsm h2) hG (by omega) (fun _ _ e => e)
    (fun h' u tk hk => ⟨.str d.shown, H, I.kept hk, ⟨_, rfl⟩, q⟩) h4
theorem units_of {k : Nat} {A : Around} (hr : Room k A) : A.units + 200 < cLine := by
  have := hr.un
  omega
end

/-! ### heaps -/
theorem same_new {H : Hp} {p : Addr} {o : HO} (h : H p = none) : Same H (upd H p o) := by
  intro b x e
  rw [upd_ne (ne_of_none e h)]
  exact e
/-- all but p is as it was -/
def But (p : Addr) (H H' : Hp) : Prop := ∀ b o, b ≠ p → H b = some o → H' b = some o
theorem But.refl (p : Addr) (H : Hp) : But p H H := fun _ _ _ e => e
theorem But.of_same {p : Addr} {H H' : Hp} (s : Same H H') : But p H H' := fun b o _ e => s b o e
theorem But.trans {p : Addr} {H H1 H2 : Hp} (a : But p H H1) (b : But p H1 H2) : But p H H2 := fun c o n e => b c o n (a c o n e)
theorem But.upd {p : Addr} {H : Hp} {o : HO} : But p H (upd H p o) := fun b x n e => by
  rw [upd_ne n]
  exact e
theorem But.seq {K : PySem.W.Frag} {p a : Addr} {H H' : Hp} {xs : List V} (s : But p H H') (n : a ≠ p) (h : SqL K H a xs) : SqL K H' a xs := by
  rcases h with (h | ⟨o, h⟩) | h
  · exact .inl (.inl (s _ _ n h))
  · exact .inl (.inr ⟨o, s _ _ n h⟩)
  · exact .inr h
theorem But.free {p l : Addr} {H H' : Hp} (s : But p H H') (n : l ≠ p) (h : H' l = none) : H l = none := by
  cases q : H l with
  | none => rfl
  | some o => exact absurd (s l o n q) (by rw [h]; exact fun z => nomatch z)

/-! ### kinds of values -/
/-- none, a bool, an int, a text, a list, a tuple, a dict -/
def Kn (H : Hp) : V → Prop
  | .non => True
  | .bl _ => True
  | .int _ => True
  | .str _ => True
  | .ref a => (∃ xs, H a = some (.lst xs)) ∨ (∃ xs, H a = some (.tup xs)) ∨ ∃ ks, H a = some (.dK ks)
  | _ => False
theorem Kn.same {H H' : Hp} (s : Same H H') : ∀ {x : V}, Kn H x → Kn H' x
  | .non, h => h
  | .bl _, h => h
  | .int _, h => h
  | .str _, h => h
  | .ref a, h => by
    rcases h with ⟨xs, e⟩ | ⟨xs, e⟩ | ⟨ks, e⟩
    · exact .inl ⟨xs, s _ _ e⟩
    · exact .inr (.inl ⟨xs, s _ _ e⟩)
    · exact .inr (.inr ⟨ks, s _ _ e⟩)
  | .byt _, h => h
  | .flt _, h => h
  | .ty _, h => h
def tyS (H : Hp) : V → String
  | .non => "NoneType"
  | .bl _ => "bool"
  | .int _ => "int"
  | .str _ => "str"
  | .ref a => match H a with
    | some (.lst _) => "list"
    | some (.tup _) => "tuple"
    | _ => "dict"
  | _ => ""
def isIB : V → Bool
  | .int _ => true
  | .bl _ => true
  | _ => false
def isBB : V → Bool
  | .bl _ => true
  | _ => false
def isI : V → Bool
  | .int _ => true
  | _ => false
def isLB (H : Hp) : V → Bool
  | .ref a => match H a with
    | some (.lst _) => true
    | _ => false
  | _ => false
theorem Kn.ty {K : PySem.W.Frag} {H : Hp} : ∀ {x : V}, Kn H x → TyX K H x (.type (tyS H x))
  | .non, _ => .base .non
  | .bl _, _ => .base (.bl _)
  | .int _, _ => .base (.int _)
  | .str _, _ => .base (.str _)
  | .ref a, h => by
    show TyX K H (.ref a) (.type (match H a with
      | some (.lst _) => "list"
      | some (.tup _) => "tuple"
      | _ => "dict"))
    rcases h with ⟨xs, e⟩ | ⟨xs, e⟩ | ⟨ks, e⟩
    · rw [e]; exact .base (.lst e)
    · rw [e]; exact .base (.tup e)
    · rw [e]; exact .base (.dK e)
theorem kit_int (H : Hp) : ∀ {x : V}, Kn H x → kitB (tyS H x) "int" = some (isIB x)
  | .non, _ => by
    show kitB "NoneType" "int" = some false
    decide +kernel
  | .bl _, _ => by
    show kitB "bool" "int" = some true
    decide +kernel
  | .int _, _ => by
    show kitB "int" "int" = some true
    decide +kernel
  | .str _, _ => by
    show kitB "str" "int" = some false
    decide +kernel
  | .ref a, h => by
    show kitB (match H a with
      | some (.lst _) => "list"
      | some (.tup _) => "tuple"
      | _ => "dict") "int" = some false
    rcases h with ⟨xs, e⟩ | ⟨xs, e⟩ | ⟨ks, e⟩
    · rw [e]
      show kitB "list" "int" = some false
      decide +kernel
    · rw [e]
      show kitB "tuple" "int" = some false
      decide +kernel
    · rw [e]
      show kitB "dict" "int" = some false
      decide +kernel
theorem kit_bool (H : Hp) : ∀ {x : V}, Kn H x → kitB (tyS H x) "bool" = some (isBB x)
  | .non, _ => by
    show kitB "NoneType" "bool" = some false
    decide +kernel
  | .bl _, _ => by
    show kitB "bool" "bool" = some true
    decide +kernel
  | .int _, _ => by
    show kitB "int" "bool" = some false
    decide +kernel
  | .str _, _ => by
    show kitB "str" "bool" = some false
    decide +kernel
  | .ref a, h => by
    show kitB (match H a with
      | some (.lst _) => "list"
      | some (.tup _) => "tuple"
      | _ => "dict") "bool" = some false
    rcases h with ⟨xs, e⟩ | ⟨xs, e⟩ | ⟨ks, e⟩
    · rw [e]
      show kitB "list" "bool" = some false
      decide +kernel
    · rw [e]
      show kitB "tuple" "bool" = some false
      decide +kernel
    · rw [e]
      show kitB "dict" "bool" = some false
      decide +kernel
theorem kit_list (H : Hp) : ∀ {x : V}, Kn H x → kitB (tyS H x) "list" = some (isLB H x)
  | .non, _ => by
    show kitB "NoneType" "list" = some false
    decide +kernel
  | .bl _, _ => by
    show kitB "bool" "list" = some false
    decide +kernel
  | .int _, _ => by
    show kitB "int" "list" = some false
    decide +kernel
  | .str _, _ => by
    show kitB "str" "list" = some false
    decide +kernel
  | .ref a, h => by
    show kitB (match H a with
      | some (.lst _) => "list"
      | some (.tup _) => "tuple"
      | _ => "dict") "list" = some (match H a with
      | some (.lst _) => true
      | _ => false)
    rcases h with ⟨xs, e⟩ | ⟨xs, e⟩ | ⟨ks, e⟩
    · rw [e]
      show kitB "list" "list" = some true
      decide +kernel
    · rw [e]
      show kitB "tuple" "list" = some false
      decide +kernel
    · rw [e]
      show kitB "dict" "list" = some false
      decide +kernel
section
variable {K : PySem.W.Frag} {H : Hp} {x : V} {Q : VK}
theorem isi_int (h : Kn H x) (q : Q (.bl (isIB x)) H) : rIsi K [x, .ty "int"] H Q := ⟨x, _, _, _, _, rfl, .ty _, h.ty, kit_ty (kit_int H h), q⟩
theorem isi_bool (h : Kn H x) (q : Q (.bl (isBB x)) H) : rIsi K [x, .ty "bool"] H Q := ⟨x, _, _, _, _, rfl, .ty _, h.ty, kit_ty (kit_bool H h), q⟩
theorem isi_list (h : Kn H x) (q : Q (.bl (isLB H x)) H) : rIsi K [x, .ty "list"] H Q := ⟨x, _, _, _, _, rfl, .ty _, h.ty, kit_ty (kit_list H h), q⟩
end
theorem isI_eq : ∀ x : V, isI x = (isIB x && !isBB x)
  | .non => rfl
  | .bl _ => rfl
  | .int _ => rfl
  | .str _ => rfl
  | .ref _ => rfl
  | .byt _ => rfl
  | .flt _ => rfl
  | .ty _ => rfl
theorem isI_of : ∀ {x : V}, isI x = true → ∃ i, x = .int i
  | .int i, _ => ⟨i, rfl⟩
def inRg (lo hi : Int) : V → Bool
  | .int i => decide (lo ≤ i) && decide (i ≤ hi)
  | _ => false
/-- a value to be judged: of a known kind, its items too -/
def OkV (H : Hp) (x : V) : Prop := Kn H x ∧ ∀ a xs, x = .ref a → H a = some (.lst xs) → xs.length ≤ 4000 ∧ ∀ y ∈ xs, Kn H y
def itemsB (f : List V → Bool) (H : Hp) : V → Bool
  | .ref a => match H a with
    | some (.lst xs) => f xs
    | _ => false
  | _ => false
theorem itemsB_lst {f : List V → Bool} {H : Hp} {a : Addr} {xs : List V} (e : H a = some (.lst xs)) : itemsB f H (.ref a) = f xs := by
  show (match H a with
    | some (.lst xs) => f xs
    | _ => false) = f xs
  rw [e]
theorem isLB_of {H : Hp} : ∀ {x : V}, isLB H x = true → ∃ a xs, x = .ref a ∧ H a = some (.lst xs)
  | .ref a, h => by
    have h' : (match H a with
      | some (.lst _) => true
      | _ => false) = true := h
    split at h'
    · rename_i xs e
      exact ⟨a, xs, rfl, e⟩
    · cases h'
theorem itemsB_no {f : List V → Bool} {H : Hp} : ∀ {x : V}, ¬ isLB H x = true → itemsB f H x = false
  | .non, _ => rfl
  | .bl _, _ => rfl
  | .int _, _ => rfl
  | .str _, _ => rfl
  | .byt _, _ => rfl
  | .flt _, _ => rfl
  | .ty _, _ => rfl
  | .ref a, h => by
    have h' : ¬ (match H a with
      | some (.lst _) => true
      | _ => false) = true := h
    show (match H a with
      | some (.lst xs) => f xs
      | _ => false) = false
    split
    · rename_i xs e
      rw [e] at h'
      exact absurd rfl h'
    · rfl
def pgsB (m : Int) (xs : List V) : Bool := xs.all (inRg 0 (m - 1))

/-! ### set(xs) of nums; its length -/
def met (ns : List Int) : Nat := (firstMet (fun i => ns.getD i 0) ns.length).length
theorem met_grow (val : Nat → Int) : ∀ n, (firstMet val n).length = n → ∀ i j, i < j → j < n → val i ≠ val j := by
  intro n
  induction n with
  | zero => intro _ i j _ h; omega
  | succ n ih =>
    intro h i j hij hj
    have hle := firstMet_length_le val n
    rw [firstMet_succ, step_length] at h
    have h1 : ¬ (firstMet val n).any (· == val n) = true := fun z => by
      rw [if_pos z] at h
      omega
    rw [if_neg h1] at h
    by_cases e : j = n
    · subst e
      intro z
      apply h1
      rw [firstMet_any]
      exact List.any_eq_true.mpr ⟨val i, List.mem_map.mpr ⟨i, List.mem_range.mpr hij, rfl⟩, beq_iff_eq.mpr z⟩
    · exact ih (by omega) i j hij (by omega)
theorem met_no (val : Nat → Int) : ∀ n, (∀ i j, i < j → j < n → val i ≠ val j) → (firstMet val n).length = n := by
  intro n
  induction n with
  | zero => intro _; rfl
  | succ n ih =>
    intro h
    have h0 := ih fun i j a b => h i j a (by omega)
    rw [firstMet_succ, step_length, if_neg, h0]
    intro z
    rw [firstMet_any] at z
    obtain ⟨y, hy, e⟩ := List.any_eq_true.mp z
    obtain ⟨i, hi, rfl⟩ := List.mem_map.mp hy
    exact h i n (List.mem_range.mp hi) (Nat.lt_succ_self n) (beq_iff_eq.mp e)
theorem met_iff (ns : List Int) : met ns = ns.length ↔ ns.Nodup := by
  have g : ∀ i, i < ns.length → ns.getD i 0 = ns[i]! := fun i hi => by
    rw [List.getD_eq_getElem?_getD, List.getElem?_eq_getElem hi, getElem!_pos ns i hi]
    rfl
  constructor
  · intro h
    refine List.pairwise_iff_getElem.mpr fun i j hi hj hij => ?_
    have := met_grow _ _ h i j hij hj
    rw [List.getD_eq_getElem?_getD, List.getD_eq_getElem?_getD, List.getElem?_eq_getElem hi, List.getElem?_eq_getElem hj] at this
    exact this
  · intro h
    refine met_no _ _ fun i j hij hj => ?_
    have hi : i < ns.length := by omega
    show ns.getD i 0 ≠ ns.getD j 0
    rw [List.getD_eq_getElem?_getD, List.getD_eq_getElem?_getD, List.getElem?_eq_getElem hi, List.getElem?_eq_getElem hj]
    exact List.pairwise_iff_getElem.mp h i j hi hj hij
theorem met_le (ns : List Int) : met ns ≤ ns.length := firstMet_length_le _ _
theorem ints_vals : ∀ {ns : List Int} {us : List Value}, Vals (ns.map V.int) us → IntsAre us ns
  | [], _, .nil => .nil
  | n :: ns, _, .cons r t => by
    obtain ⟨k, rfl⟩ := r
    exact .cons n k (ints_vals t)
section
variable {X : Cx}
def rSetI (K : PySem.W.Frag) : List V → Hp → VK → Prop := fun xs H Q => ∃ (a : Addr) (ns : List Int), xs = [.ref a] ∧ SqL K H a (ns.map V.int) ∧ ns.length ≤ 4000 ∧
  ∀ (p : Addr) (S : Int → Bool), H p = none → (∀ k, S k = decide (k ∈ ns)) → Q (.ref p) (upd H p (.set S (met ns)))
theorem cr_setI (hc : X.calm = true) : CallR X (.type "set") (rSetI X.K) := by
  intro pins s σ H xs us Q I r h
  obtain ⟨a, ns, rfl, hS, hl, q⟩ := h
  obtain ⟨u, rfl, rx⟩ := vals1 r
  cases (show u = Value.ref a from rx)
  obtain ⟨its, rv, pl, hz⟩ := I.list hS
  have hi : IntsAre its.toArray.toList ns := by
    rw [List.toList_toArray]
    exact ints_vals rv
  have hn : its.length = ns.length := by
    rw [← rv.length, List.length_map]
  have hsz : its.toArray.size = ns.length := by
    rw [List.size_toArray, hn]
  refine call_set_list (ns := ns) (I.ok.hd hc) pl.isList hi (by rw [hsz]; show ns.length + 1 < 4096; omega) fun h' tk hS' hk => ?_
  have hf : H s.heap.objs.size = none := I.hok.fresh (Nat.le_refl _)
  have kp : ∀ b o, s.heap.get? b = some o → h'.get? b = some o := fun b o e => hk b o (Heap.lt_size e) e
  rw [hsz] at hS'
  refine ⟨.ref s.heap.objs.size, _, I.laid (t' := tk) kp (Nat.le_refl _) (o := .set _ _) hS', rfl, q _ _ hf fun k => ?_⟩
  rw [firstMet_any]
  rw [Bool.eq_iff_iff, decide_eq_true_iff, List.any_eq_true]
  constructor
  · rintro ⟨y, hy, e⟩
    obtain ⟨i, hi', rfl⟩ := List.mem_map.mp hy
    have hlt := List.mem_range.mp hi'
    have ek := beq_iff_eq.mp e
    rw [← ek, List.getD_eq_getElem?_getD, List.getElem?_eq_getElem hlt]
    exact List.getElem_mem hlt
  · intro hm
    obtain ⟨i, hi', e⟩ := List.mem_iff_getElem.mp hm
    refine ⟨ns.getD i 0, List.mem_map.mpr ⟨i, List.mem_range.mpr hi', rfl⟩, beq_iff_eq.mpr ?_⟩
    rw [List.getD_eq_getElem?_getD, List.getElem?_eq_getElem hi']
    exact e
theorem call_lenSet : CallR X (.builtin "len") (fun xs H Q => ∃ (p : Addr) (S : Int → Bool) (n : Nat), xs = [.ref p] ∧ H p = some (.set S n) ∧ Q (.int (n : Nat)) H) := by
  intro pins s σ H xs us Q I r h
  obtain ⟨p, S, n, rfl, hp, q⟩ := h
  obtain ⟨u, rfl, rx⟩ := vals1 r
  cases (show u = Value.ref p from rx)
  obtain ⟨o, es, ep, t, e, ex, hd, _, _, hb, hf, hn⟩ := (show ObjOk X.prog X.w H s.heap p (.set S n) from I.hok p _ hp)
  have h63 : (es.size : Int) < 2 ^ 63 := by
    have : es.size < 4096 := hb
    have e63 : (2 : Int) ^ 63 = 9223372036854775808 := by decide
    rw [e63]
    omega
  refine call_len_set e ex hd hf h63 ?_
  rw [hn]
  exact ⟨.int (n : Nat), H, I.tok _, ⟨_, rfl⟩, q⟩
end

/-! ### the answers about lists of pages -/
def toI : V → Int
  | .int i => i
  | _ => 0
def nums (xs : List V) : List Int := xs.map toI
theorem nums_map (ns : List Int) : nums (ns.map V.int) = ns := by
  unfold nums
  rw [List.map_map]
  exact List.map_id' _
theorem nums_of : ∀ {xs : List V} {lo hi : Int}, xs.all (inRg lo hi) = true → (nums xs).map V.int = xs
  | [], _, _, _ => rfl
  | x :: xs, lo, hi, h => by
    rw [List.all_cons, Bool.and_eq_true] at h
    have ih := nums_of h.2
    cases x with
    | int i =>
      show V.int i :: (nums xs).map V.int = _
      rw [ih]
    | _ => exact absurd h.1 Bool.false_ne_true
def difB (m : Int) (xs : List V) : Bool := pgsB m xs && decide (nums xs).Nodup
def visB (xs : List V) : Bool := pgsB 40 xs && decide (xs.length ≤ 300)
theorem bl_int (a b : Nat) : decide (V.int (a : Int) = V.int (b : Int)) = decide (a = b) := by
  by_cases e : a = b
  · rw [decide_eq_true e, e]
    exact decide_eq_true rfl
  · rw [decide_eq_false e]
    exact decide_eq_false fun z => e (Int.ofNat.inj (V.int.inj z))

/-! ### a pool of three ints, from which is drawn -/
def Pl (H : Hp) (p : Addr) (n : Nat) : Prop := ∃ a b c : Int, H p = some (.lst [.int a, .int b, .int c]) ∧ 0 ≤ a ∧ 0 ≤ b ∧ b.natAbs < 2 ^ 160 ∧ 0 ≤ c ∧ c ≤ (n : Int)
theorem Pl.mono {H : Hp} {p : Addr} {n m : Nat} (h : Pl H p n) (l : n ≤ m) : Pl H p m := by
  obtain ⟨a, b, c, e, h1, h2, h3, h4, h5⟩ := h
  exact ⟨a, b, c, e, h1, h2, h3, h4, by omega⟩
theorem Pl.same {H H' : Hp} {p : Addr} {n : Nat} (h : Pl H p n) (s : Same H H') : Pl H' p n := by
  obtain ⟨a, b, c, e, h⟩ := h
  exact ⟨a, b, c, s _ _ e, h⟩
theorem Pl.at {H : Hp} {p : Addr} {n : Nat} (h : Pl H p n) : ∃ o, H p = some o := by
  obtain ⟨a, b, c, e, _⟩ := h
  exact ⟨_, e⟩
theorem e2_160 : (2 : Nat) ^ 160 = 1461501637330902918203684832716283019655932542976 := by decide +kernel
theorem e2_170 : (2 : Nat) ^ 170 = 1496577676626844588240573268701473812127674924007424 := by decide +kernel
theorem pw18 : (10 : Int) ^ (18 : Int).toNat = 1000000000000000000 := by decide +kernel
theorem pw30 : (10 : Int) ^ (30 : Int).toNat = 1000000000000000000000000000000 := by decide +kernel
theorem pw33 : (10 : Int) ^ (33 : Int).toNat = 1000000000000000000000000000000000 := by decide +kernel
theorem pw36 : (10 : Int) ^ (36 : Int).toNat = 1000000000000000000000000000000000000 := by decide +kernel
theorem pw39 : (10 : Int) ^ (39 : Int).toNat = 1000000000000000000000000000000000000000 := by decide +kernel
theorem pw38 : (10 : Int) ^ (38 : Int).toNat = 100000000000000000000000000000000000000 := by decide +kernel
theorem pw40 : (10 : Int) ^ (40 : Int).toNat = 10000000000000000000000000000000000000000 := by decide +kernel
theorem pw41 : (10 : Int) ^ (41 : Int).toNat = 100000000000000000000000000000000000000000 := by decide +kernel
theorem pow_ok (n : Int) (h : 0 ≤ n) (h2 : n ≤ 1000) : CPow 10 n := ⟨h, by omega, by decide⟩
theorem cube_of {i : Int} (h0 : 0 ≤ i) (h : i < 1496577676626844588240573268701473812127674924007424) : CPowG i 3 :=
  cube_ok (n := 170) (by rw [e2_170]; omega) (by decide)

/-! ### data: how deep, how long when shown -/
structure Sh (k n : Nat) (d : PyData) : Prop where
  showable : d.showable = true
  noDict : d.hasDict = false
  lay : d.canLay0 = true
  short : d.leavesShort 40 = true
  deep : d.depth ≤ k
  bulk : d.bulk ≤ n
theorem Sh.mono {k n k' n' : Nat} {d : PyData} (h : Sh k n d) (hk : k ≤ k') (hn : n ≤ n') : Sh k' n' d :=
  ⟨h.showable, h.noDict, h.lay, h.short, Nat.le_trans h.deep hk, Nat.le_trans h.bulk hn⟩
theorem Sh.fits {k n : Nat} {d : PyData} (h : Sh k n d) (hn : n ≤ 300000) : d.shown.length ≤ sizeLine := by
  have h1 := PyData.shown_le_bulk 40 (by decide) d h.short
  have h2 := h.bulk
  have e : sizeLine = 16777216 := by decide
  rw [e]
  omega
theorem Sh.shaped {k n : Nat} {d : PyData} (h : Sh k n d) (hk : k ≤ 64) : SeqAt.shaped d = true := by
  unfold SeqAt.shaped
  rw [h.lay, Bool.true_and]
  exact decide_eq_true (Nat.le_trans h.deep hk)
theorem sh_int {z : Int} (h : z.natAbs < 10 ^ 12) : Sh 0 0 (.int z) where
  showable := by
    show decide (z.natAbs.log2 < 1920) = true
    refine decide_eq_true ?_
    by_cases e : z.natAbs = 0
    · rw [e]
      decide
    · refine (Nat.log2_lt e).mpr (Nat.lt_of_lt_of_le h ?_)
      exact Nat.le_trans (show 10 ^ 12 ≤ 2 ^ 64 by decide) (Nat.pow_le_pow_right (by decide) (by decide))
  noDict := by simp only [PyData.hasDict]
  lay := by simp only [PyData.canLay0]
  short := by
    simp only [PyData.leavesShort]
    exact decide_eq_true (Nat.le_trans (PyData.shown_int_le h) (by decide))
  deep := by simp only [PyData.depth]; exact Nat.le_refl 0
  bulk := by simp only [PyData.bulk]; exact Nat.le_refl 0
theorem sh_all {k n : Nat} : ∀ {ds : List PyData}, (∀ d ∈ ds, Sh k n d) →
    PyData.showableAll ds = true ∧ PyData.hasDictAll ds = false ∧ PyData.canLayAll0 ds = true ∧ PyData.leavesShortAll 40 ds = true ∧ PyData.depthAll ds ≤ k ∧ PyData.bulkAll ds ≤ ds.length * (n + 1)
  | [], _ => by
    simp only [PyData.showableAll, PyData.hasDictAll, PyData.canLayAll0, PyData.leavesShortAll, PyData.depthAll, PyData.bulkAll]
    exact ⟨trivial, trivial, trivial, trivial, Nat.zero_le _, Nat.zero_le _⟩
  | d :: ds, h => by
    have hd := h d List.mem_cons_self
    obtain ⟨h1, h2, h3, h4, h5, h6⟩ := sh_all (ds := ds) fun x hx => h x (List.mem_cons_of_mem _ hx)
    simp only [PyData.showableAll, PyData.hasDictAll, PyData.canLayAll0, PyData.leavesShortAll, PyData.depthAll, PyData.bulkAll]
    rw [hd.showable, hd.noDict, hd.lay, hd.short, h1, h2, h3, h4]
    refine ⟨rfl, rfl, rfl, rfl, Nat.max_le.mpr ⟨hd.deep, h5⟩, ?_⟩
    have hb := hd.bulk
    rw [List.length_cons, Nat.add_mul, Nat.one_mul]
    omega
theorem sh_list {k n : Nat} {ds : List PyData} (h : ∀ d ∈ ds, Sh k n d) : Sh (k + 1) (ds.length * (n + 1)) (.list ds) := by
  obtain ⟨h1, h2, h3, h4, h5, h6⟩ := sh_all h
  exact ⟨by simp only [PyData.showable]; exact h1, by simp only [PyData.hasDict]; exact h2, by simp only [PyData.canLay0]; exact h3,
    by simp only [PyData.leavesShort]; exact h4, by simp only [PyData.depth]; omega, by simp only [PyData.bulk]; exact h6⟩
theorem sh_tuple {k n : Nat} {ds : List PyData} (h : ∀ d ∈ ds, Sh k n d) : Sh (k + 1) (ds.length * (n + 1)) (.tuple ds) := by
  obtain ⟨h1, h2, h3, h4, h5, h6⟩ := sh_all h
  exact ⟨by simp only [PyData.showable]; exact h1, by simp only [PyData.hasDict]; exact h2, by simp only [PyData.canLay0]; exact h3,
    by simp only [PyData.leavesShort]; exact h4, by simp only [PyData.depth]; omega, by simp only [PyData.bulk]; exact h6⟩
/-- a list of ints, as data -/
def nD (ns : List Int) : PyData := .list (ns.map .int)
theorem sh_nD {ns : List Int} (h : ∀ z ∈ ns, 0 ≤ z ∧ z ≤ 1000) : Sh 1 ns.length (nD ns) := by
  have h1 : Sh (0 + 1) ((ns.map PyData.int).length * (0 + 1)) (.list (ns.map .int)) := sh_list fun d hd => by
    obtain ⟨z, hz, rfl⟩ := List.mem_map.mp hd
    have := h z hz
    exact sh_int (by omega)
  rw [List.length_map] at h1
  exact h1.mono (Nat.le_refl _) (by omega)
theorem dpa_nums {K : PySem.W.Frag} {H : Hp} : ∀ ns : List Int, DpAll K H (ns.map V.int) (ns.map PyData.int)
  | [] => .nil
  | n :: ns => .cons (.int n) (dpa_nums ns)
theorem dp_nD {K : PySem.W.Frag} {H : Hp} {a : Addr} {ns : List Int} (h : SqL K H a (ns.map V.int)) : Dp K H (.ref a) (nD ns) := .lst h (dpa_nums ns)
theorem canLay_nums : ∀ ns : List Int, PyData.canLayAll0 (ns.map PyData.int) = true
  | [] => by simp only [List.map_nil, PyData.canLayAll0]
  | n :: ns => by
    simp only [List.map_cons, PyData.canLayAll0, PyData.canLay0, Bool.true_and]
    exact canLay_nums ns
theorem depth_nums : ∀ ns : List Int, PyData.depthAll (ns.map PyData.int) = 0
  | [] => by simp only [List.map_nil, PyData.depthAll]
  | n :: ns => by
    simp only [List.map_cons, PyData.depthAll, PyData.depth]
    rw [depth_nums ns]
    rfl
theorem nD_shaped (ns : List Int) : SeqAt.shaped (nD ns) = true := by
  have h1 : (nD ns).canLay0 = true := by
    unfold nD
    simp only [PyData.canLay0]
    exact canLay_nums ns
  have h2 : (nD ns).depth ≤ 64 := by
    unfold nD
    simp only [PyData.depth]
    rw [depth_nums]
    decide
  unfold SeqAt.shaped
  rw [h1, decide_eq_true h2]
  rfl
theorem eqv_nums : ∀ xs ys : List Int, PyData.eqvAll (xs.map .int) (ys.map .int) = decide (xs = ys)
  | [], [] => by simp only [List.map_nil, PyData.eqvAll]; rfl
  | [], y :: ys => by simp only [List.map_nil, List.map_cons, PyData.eqvAll]; rfl
  | x :: xs, [] => by simp only [List.map_nil, List.map_cons, PyData.eqvAll]; rfl
  | x :: xs, y :: ys => by
    simp only [List.map_cons, PyData.eqvAll, PyData.eqv]
    rw [eqv_nums xs ys]
    by_cases e : x = y
    · subst e
      by_cases f : xs = ys
      · subst f
        simp
      · simp [f]
    · simp [e]
theorem eqv_nD (xs ys : List Int) : PyData.eqv (nD xs) (nD ys) = decide (xs = ys) := by
  unfold nD
  simp only [PyData.eqv]
  exact eqv_nums xs ys
/-- an item at a drawn place -/
theorem at_ex {xs : List V} {r : Int} (h0 : 0 ≤ r) (h : r < (xs.length : Int)) : ∃ v, atI xs r = some v ∧ v ∈ xs := by
  obtain ⟨j, rfl⟩ := Int.eq_ofNat_of_zero_le h0
  have hj : j < xs.length := by omega
  exact ⟨xs[j], atI_nat (List.getElem?_eq_getElem hj), List.getElem_mem hj⟩
theorem at_back {ns : List Int} (h : ns ≠ []) : atI (ns.map V.int) (-1) = some (.int (ns.getLast h)) := by
  have e : ns.map V.int = ns.dropLast.map V.int ++ [.int (ns.getLast h)] := by
    rw [← List.map_singleton, ← List.map_append, List.dropLast_concat_getLast]
  rw [e]
  exact atI_last _ _

theorem u64_of {k : Nat} {A : Around} (hr : Room k A) : A.units + 64 < cLine := by
  have := hr.un
  omega
theorem But.new {p F : Addr} {H H' : Hp} {o : HO} (s : But p H H') (hF : H F = none) : But p H (L2.upd H' F o) := fun b x n e => by
  rw [upd_ne (ne_of_none e hF)]
  exact s b x n e

/-! ### the law's end, where its def may show data -/
section
variable {CX : CXT} {P : Program} {w : World} {K : PySem.W.Frag} {mg mb : PySem.Str → Option Value} {k : Nat}
theorem law_callG {fa a : Addr} {fd : FuncData} {x : PySem.Str} {sp : Sp} {s₁ : Shared} {vs : List Value} {ns : List Int}
    (KX : K.In s₁.heap) (hns : s₁.heap.Ns mainGlobals mg) (hb : s₁.heap.Ns builtinsNs mb)
    (hbb : ∀ y : PySem.Str, y ≠ "__name__" → mb y = bootBuiltins y) (hlim : s₁.heap.NoLimit) (hg : s₁.gens = #[])
    (ha : s₁.heap.get? a = some { cls := .type "list", data := .seq vs.toArray }) (hi : IntsAre vs ns) (hl : ns.length ≤ sizeLine)
    (hr : Room k callerA)
    (F : ∀ base : Heap, K.In base → base.Ns mainGlobals mg → FnG P w K mg base CX k fa fd [x] sp)
    (hbind : ∀ (s : Shared) (u : Value), BindsTo s fd ⟨[u], []⟩ [(x, u)])
    (hsp : ∀ H : Hp, SqL K H a (ns.map V.int) → (∀ b, H b ≠ none → b = a) → sp [.ref a] H (fun v _ => v = .bl true) fun _ _ _ => False)
    (hCX : ∀ H e s', CX [] H s₁ (fun _ _ _ => False) e s' → False) :
    codeAny (model P w) callerA (.call (.ref fa) ⟨[.ref a], []⟩)
      (fun r s' => r = .ok (.ret (.bool true)) ∧ OldK s₁.heap s'.heap ∧ s'.os = s₁.os ∧ AllBare s'.gens) s₁ := by
  have go : ∀ H : Hp, (∀ b, H b = none ∨ ∃ o xs, H b = some (.frz o (.lst xs))) → SqL K H a (ns.map V.int) → HOk P w H s₁.heap →
      (∀ b, H b ≠ none → b = a) → (H a ≠ none → K.lookup a = none) →
      codeAny (model P w) callerA (.call (.ref fa) ⟨[.ref a], []⟩)
        (fun r s' => r = .ok (.ret (.bool true)) ∧ OldK s₁.heap s'.heap ∧ s'.os = s₁.os ∧ AllBare s'.gens) s₁ := by
    intro H only hS hok one hK
    have lay : ∀ {b : Addr} {o : Obj}, s₁.heap.get? b = some o → H b = none → (hidT s₁.heap H).get? b = some o := fun e n => hidT_get e n
    have dict0 : ∀ {b : Addr} {o : Obj} {es : Array DictEntry} {ep : Nat}, s₁.heap.get? b = some o → o.data = .dict es ep → H b = none := by
      intro b o es ep e d
      cases q : H b with
      | none => rfl
      | some u =>
        have eb : b = a := one b (by rw [q]; exact fun z => nomatch z)
        subst eb
        rw [ha] at e
        cases e
        exact absurd (show Data.seq vs.toArray _ = Data.dict es ep from d) (fun z => nomatch z)
    have nsK : ∀ {b : Addr} {m : PySem.Str → Option Value}, s₁.heap.Ns b m → (hidT s₁.heap H).Ns b m := by
      rintro b m ⟨o, es, ep, e, d, r⟩
      exact ⟨o, es, ep, lay e (dict0 e d), d, r⟩
    have inK : K.In (hidT s₁.heap H) := by
      intro b o e
      refine lay (KX b o e) ?_
      cases q : H b with
      | none => rfl
      | some u =>
        have eb : b = a := one b (by rw [q]; exact fun z => nomatch z)
        subst eb
        rw [hK (by rw [q]; exact fun z => nomatch z)] at e
        cases e
    have lim2 : (hidT s₁.heap H).NoLimit := by
      obtain ⟨mc, h1, h2⟩ := hlim
      exact ⟨mc, nsK h1, h2⟩
    have nof : ∀ b ∈ frs ([] : List Env), H b = none := fun b hb => absurd (show b ∈ ([] : List Addr) from hb) (by simp)
    have e0 : Env0 P w K mg (hidT s₁.heap H) callerA [] s₁ H :=
      ⟨rfl, ⟨inK, nsK hns, ⟨mb, nsK hb, hbb⟩, lim2⟩, fun b o e => of_hidT e, Nat.le_of_eq (hidT_size _ _), trivial, nof, hok, .of_eq hg⟩
    refine codeAny_mono ((F _ inK (nsK hns)).run callerA rfl hr [] s₁ H ⟨[.ref a], []⟩ [.ref a] [.ref a] _ _ e0 (hbind s₁ (.ref a)) (.cons rfl .nil) (hsp H hS one)) fun r s' h => ?_
    match r, h with
    | .error e, h => exact (hCX H e s' h).elim
    | .ok .next, h => exact h.elim
    | .ok .brk, h => exact h.elim
    | .ok .cont, h => exact h.elim
    | .ok (.ret u), ⟨v, H', os, bare, un, hok', r', q⟩ =>
      cases (show v = V.bl true from q)
      cases (show u = Value.bool true from r')
      refine ⟨rfl, OldK.of_keep fun b o e => ?_, os, bare⟩
      rcases only b with q | ⟨ob, xs, q⟩
      · exact un.keep b o e q (fun z => absurd (show b ∈ ([] : List Addr) from z) (by simp)) (by simp)
      · have e1 := (hok b _ q).1
        have e2 := (hok' b _ (un.frzs b ob _ q)).1
        rw [e] at e1
        cases e1
        exact e2
  have rv := vals_ints hi
  cases hk : K.lookup a with
  | some o =>
    have e := KX a o hk
    rw [ha] at e
    cases e
    exact go (fun _ => none) (fun _ => .inl rfl) (.inr ⟨_, vs.toArray, _, hk, rfl, rfl, rfl, by rw [List.size_toArray, hi.length]; exact hl, by simpa using rv⟩)
      (fun b u z => nomatch (show (none : Option HO) = some u from z)) (fun b z => absurd rfl z) fun z => absurd rfl z
  | none =>
    refine go (fun b => if b = a then some (.frz { cls := .type "list", data := .seq vs.toArray } (.lst (ns.map V.int))) else none) (fun b => ?_) (.inl (.inr ⟨_, if_pos rfl⟩)) (fun b u z => ?_) (fun b z => ?_) fun _ => hk
    · by_cases hb : b = a
      · exact .inr ⟨_, _, if_pos hb⟩
      · exact .inl (if_neg hb)
    · by_cases hb : b = a
      · have z' := (if_pos hb).symm.trans z
        cases z'
        subst hb
        exact ⟨ha, by rw [List.length_map]; exact hl, vs, _, rv, ha⟩
      · exact nomatch (if_neg hb).symm.trans z
    · by_cases hb : b = a
      · exact hb
      · exact absurd (if_neg hb) z
end
theorem walk_ofG {l : PySem.W.OpenLaw} {n k : Nat} {q : Program} {loose : List PySem.Str} {XP : (PySem.Str → Option Value) → Heap → Prop}
    {YP : World → Heap → Prop} {d : DefRec} {K : Params → PySem.W.Frag} {sp : PySem.W.Frag → Sp} {x : PySem.Str}
    (hn : l.most = some n) (hn2 : n ≤ sizeLine) (hdf : d.params.defaults = []) (hr : Room k callerA)
    (hY : ∀ (w : World) (h : Heap), YP w h → (K w.params).In h)
    (F : ∀ (w : World) (mg : PySem.Str → Option Value) (fa : Addr) (h : Heap), (K w.params).In h → h.Ns mainGlobals mg → mg d.name = some (.ref fa) →
      ∃ fd : FuncData, (∀ (s : Shared) (u : Value), BindsTo s fd ⟨[u], []⟩ [(x, u)]) ∧
        ∀ base : Heap, (K w.params).In base → base.Ns mainGlobals mg → FnG l.prog w (K w.params) mg base CX0 k fa fd [x] (sp (K w.params)))
    (hsp : ∀ (K : PySem.W.Frag) (H : Hp) (a : Addr) (ns : List Int), ns.length ≤ n → SqL K H a (ns.map V.int) → (∀ b, H b ≠ none → b = a) →
      sp K [.ref a] H (fun v _ => v = .bl true) fun _ _ _ => False) :
    PySem.W.WalkO q loose XP YP l.row.toRowW d [] (fun f vs => PySem.call f vs) :=
  Att.attach_call hn hdf fun w s₀ s₁ mg mb fa o pm cd doc a vs ns G Y ho hd hcd hmg hobj hints hlen hg => by
    obtain ⟨fd, hb, hF⟩ := F w mg fa _ (hY w _ Y) G.T.g hmg
    exact law_callG (hY w _ Y) G.T.g G.T.b G.T.builtins G.T.nolimit hg hobj hints (Nat.le_trans hlen hn2) hr hF hb
      (fun H hS one => hsp _ H a ns hlen hS one) fun H e s' z => z.elim

/-! ### o[:] = another list -/
section
variable {prog : Program} {w : World} {A : Around} {E : Value → Shared → Prop} {s : Shared}
theorem bounds_all (n : Nat) : sliceBounds none none none n = ((0 : Int), (n : Int), 1) := by
  unfold sliceBounds
  simp only [Option.getD_none, show (1 : Int) > 0 by decide, if_true]
set_option maxHeartbeats 1000000 in
theorem setItem_all {l b sl : Addr} {items new : Array Value} {n n2 : Nat} {Q : Unit → Shared → Prop}
    (e : s.heap.get? l = some { cls := .type "list", data := .seq items n })
    (e2 : s.heap.get? b = some { cls := .type "list", data := .seq new n2 }) (hne : l ≠ b)
    (hs : s.heap.IsSliceOf sl .none .none .none) (hsz : items.size + new.size ≤ sizeLine)
    (h : Q () { s with heap := s.heap.update l (Obj.mapSeq fun xs => xs.extract 0 0 ++ new ++ xs.extract items.size xs.size) }) :
    wpAny (model prog w) A (setItem (.ref l) (.ref sl) (.ref b)) Q E s := by
  have hl := PySem.IsL.isList e; have hb := PySem.IsL.isList e2
  obtain ⟨os, hos, hcs, hds⟩ := id hs
  have hT : s.TypeIs (.ref sl) "slice" := ⟨os, hos, hcs⟩
  have hstep : ¬ ((rawPart none == rawInt 0) = true) := fun z => nomatch z
  have same : Builtin.List.listSameRef (.ref l) (.ref b) = false := beq_eq_false_iff_ne.mpr hne
  have mx : (max (0 : Int) (items.size : Int)).toNat = items.size := by omega
  have hz : ((fun xs : Array Value => xs.extract 0 0 ++ new ++ xs.extract items.size xs.size) items).size ≤ sizeLine + 1 := by
    simp only [Array.size_append, Array.size_extract]; omega
  unfold setItem; try with_reducible refine wpAny_holding ?_
  first | refine wpAny_bind (wpAny_pure ?_) | skip
  refine wpAny_bind (wpAny_sequenceKey hl.typeIs (by decide) (wpAny_bind (wpAny_callSpecial?_slot (name := Str.ofString "__setitem__") hl.typeIs slot_list_setitem (wpAny_call_entry slot_list_setitem hl.typeIs entry_list_setitem ?_ (args_list_setitem _ _ _)))))
  show wpAny _ _ (Builtin.List.listSubscript? (.ref sl) >>= _) _ _ s; refine wpAny_bind ?_
  unfold Builtin.List.listSubscript?; refine wpAny_bind (wpAny_specialOf hT slice_no_index ?_)
  simp only [Option.isNone_none, if_true]; refine wpAny_pure ?_
  show wpAny _ _ (typeOf (.ref sl) >>= _) _ _ s; refine wpAny_bind (wpAny_typeOf hT ?_)
  first | (rw [if_neg (by decide)]) | (refine PySem.W.KFB.if_not (by decide) ?_)
  rw [listSliceParts_eq]; refine wpAny_bind (wpAny_bind (wpAny_field hos hds (x := .none) rfl (wpAny_bind (wpAny_listPart .none ?_))))
  rw [if_neg hstep]; refine wpAny_bind (wpAny_field hos hds (x := Value.none) rfl (wpAny_bind (wpAny_listPart .none ?_)))
  refine wpAny_bind (wpAny_field hos hds (x := Value.none) rfl (wpAny_bind (wpAny_listPart .none (wpAny_pure ?_)))); skip
  first | (simp only [same, Bool.false_eq_true, if_false]) | (refine PySem.W.KFB.if_not same ?_) | (dsimp only; rw [if_neg (by rw [same]; exact fun z => nomatch z)])
  refine wpAny_bind (m := Builtin.List.listAllItems (.ref b) "must assign iterable to extended slice") ?_; unfold Builtin.List.listAllItems
  refine wpAny_bind (wpAny_typeOf hb.typeIs ?_); first | (refine PySem.W.KFB.if_so (by decide) ?_) | (rw [if_pos (by decide)]) | (simp only [beq_self_eq_true, Bool.true_or, if_true])
  unfold Builtin.List.listItems; refine wpAny_bind (wpAny_seqItems e2 rfl (wpAny_pure (wpAny_bind (wpAny_bind (wpAny_seqItems e rfl (wpAny_pure ?_))))))
  refine wpAny_bind (wpAny_of_eq ((sliceIndices_raw none none none items.size (by simp)).trans (congrArg (pure : Int × Int × Int → Sem (Int × Int × Int)) (bounds_all _))) ?_)
  show wpAny _ _ (if ((1 : Int) == 1) = true then _ else _) _ _ s; rw [if_pos (by decide)]; refine wpAny_bind (wpAny_rule ?_)
  first | (simp only [notLongL hsz, Bool.false_eq_true, if_false]) | (refine PySem.W.KFB.if_not (notLongL hsz) ?_)
  first | (refine wpAny_bind (wpAny_pure ?_)) | (skip)
  show wpAny _ _ (updateSeq l (fun xs => xs.extract 0 (0 : Int).toNat ++ new ++ xs.extract (max (0 : Int) (items.size : Int)).toNat xs.size) >>= _) _ _ s
  rw [mx, show (0 : Int).toNat = 0 from rfl]; refine wpAny_bind (wpAny_updateSeq (hz := Nat.le_trans (Nat.le_add_right _ _) hsz) (_hz' := hz) e rfl (wpAny_bind (wpAny_letGo ?_)))
  first | (exact wpAny_bind (wpAny_pure (wpAny_pure ⟨.none, rfl, wpAny_pure h⟩))) | (exact wpAny_pure ⟨.none, rfl, wpAny_pure h⟩)
end
section
variable {X : Cx} {o : Expr} {to : TE} {p2 pos : Pos}
/-- o[:] = v, another list -/
def gAll (to : TE) : TG := fun v σ H Q => to σ H fun x H1 => ∃ (l b : Addr) (xs ys : List V), x = .ref l ∧ v = .ref b ∧ l ≠ b ∧ H1 l = some (.lst xs) ∧ H1 b = some (.lst ys) ∧
  xs.length + ys.length ≤ sizeLine ∧ Q σ (upd H1 l (.lst ys))
theorem pg_all (ho : PE X o to)
    (ha : ∀ v, assign (.Subscript o (.Slice none none none p2) pos) X.env v = (do
      let ov ← holding [v] (eval o X.env)
      let iv ← holding [v, ov] (eval (.Slice none none none p2) X.env)
      standAt pos
      holding [v, ov, iv] (setItem ov iv v)
      release [iv, v, ov] []) := by intro _; rfl) : PG X (.Subscript o (.Slice none none none p2) pos) (gAll to) := by
  refine ⟨fun pins s σ H v u Q I r h => ?_⟩
  rw [ha]
  refine wpAny_bind (wpAny_holding (thn (ho.run pins s σ H _ I h) fun ov s1 ⟨x, H1, I1, r1, l, b, xs, ys, ex, ev, hne, hl, hb, hz, q⟩ => ?_))
  subst ex; subst ev
  cases (show ov = Value.ref l from r1)
  cases (show u = Value.ref b from r)
  refine wpAny_bind (wpAny_holding (wpAny_Slice ?_))
  rw [evalPart_none]
  refine wpAny_pure (wpAny_pure (wpAny_pure ?_))
  have I2 : Inv X pins σ H1 { s1 with heap := s1.heap.push { cls := .type "slice", data := .fields #[.none, .none, .none] } } :=
    I1.kept (t' := s1.toks) fun c ob e => Heap.get?_push_of_some _ e
  refine wpAny_bind (wpAny_standAt (wpAny_bind (wpAny_holding ?_)))
  obtain ⟨z, its, n, rv, hl', e⟩ := I2.lstM hl
  obtain ⟨z2, its2, n2, rv2, hl2', e2⟩ := I2.lstM hb
  refine setItem_all e e2 hne (Heap.IsSliceOf.new ..) (by rw [List.size_toArray, List.size_toArray]; omega) ?_
  have I3 := I2.lset (its' := its2) (f := fun xs => xs.extract 0 0 ++ its2.toArray ++ xs.extract its.toArray.size xs.size) (t' := s1.toks) hl e
    (by show its.toArray.extract 0 0 ++ its2.toArray ++ its.toArray.extract its.toArray.size its.toArray.size = its2.toArray; simp) rv2 (by omega)
  exact wpAny_release ⟨σ, _, I3, q⟩
end

/-! ### what a visit does -/
def vis (t : List Int) (p : Int) : List Int := if p ∈ t then t.take (t.idxOf p + 1) else t ++ [p]
def play (t l : List Int) : List Int := l.foldl vis t
theorem play_nil (t : List Int) : play t [] = t := rfl
theorem play_snoc (t l : List Int) (p : Int) : play t (l ++ [p]) = vis (play t l) p := by
  unfold play
  rw [List.foldl_append]
  rfl
theorem play_step (t l : List Int) {i : Nat} {p : Int} (h : l[i]? = some p) : play t (l.take (i + 1)) = vis (play t (l.take i)) p := by
  rw [List.take_add_one, h]
  exact play_snoc _ _ _
theorem vis_len (t : List Int) (p : Int) : (vis t p).length ≤ t.length + 1 := by
  unfold vis
  split
  · rw [List.length_take]
    omega
  · rw [List.length_append]
    exact Nat.le_refl _
theorem play_len : ∀ (l t : List Int), (play t l).length ≤ t.length + l.length
  | [], t => Nat.le_refl _
  | p :: l, t => by
    have h1 := play_len l (vis t p)
    have h2 := vis_len t p
    show (play (vis t p) l).length ≤ _
    rw [List.length_cons]
    omega
theorem vis_mem {t : List Int} {p z : Int} (h : z ∈ vis t p) : z ∈ t ∨ z = p := by
  unfold vis at h
  split at h
  · exact .inl (List.mem_of_mem_take h)
  · rcases List.mem_append.mp h with h | h
    · exact .inl h
    · exact .inr (List.mem_singleton.mp h)
theorem play_mem : ∀ {l t : List Int} {z : Int}, z ∈ play t l → z ∈ t ∨ z ∈ l
  | [], _, _, h => .inl h
  | p :: l, t, z, h => by
    rcases play_mem (l := l) (t := vis t p) h with h | h
    · rcases vis_mem h with h | h
      · exact .inl h
      · exact .inr (h ▸ List.mem_cons_self)
    · exact .inr (List.mem_cons_of_mem _ h)
theorem inV_nums (p : Int) : ∀ t : List Int, inV (.int p) (t.map V.int) = decide (p ∈ t)
  | [] => by
    show false = decide (p ∈ ([] : List Int))
    exact (decide_eq_false (fun z => nomatch z)).symm
  | x :: t => by
    show ((x == p) || inV (.int p) (t.map V.int)) = decide (p ∈ x :: t)
    rw [inV_nums p t]
    by_cases e : x = p
    · subst e
      rw [beq_self_eq_true, Bool.true_or]
      exact (decide_eq_true List.mem_cons_self).symm
    · rw [beq_eq_false_iff_ne.mpr e, Bool.false_or]
      refine decide_eq_decide.mpr ⟨fun h => List.mem_cons_of_mem _ h, fun h => ?_⟩
      rcases List.mem_cons.mp h with h | h
      · exact absurd h.symm e
      · exact h
theorem flat_nums : ∀ t : List Int, (t.map V.int).all flatV = true
  | [] => rfl
  | x :: t => by
    rw [List.map_cons, List.all_cons, flat_nums t]
    rfl
theorem idx_nums : ∀ {t : List Int} {p : Int}, p ∈ t → (t.map V.int)[t.idxOf p]? = some (.int p) ∧ t.idxOf p < t.length ∧
    ∀ (m : Nat) (z : V), m < t.idxOf p → (t.map V.int)[m]? = some z → eqV z (.int p) = false
  | [], _, h => nomatch h
  | x :: t, p, h => by
    by_cases e : x = p
    · subst e
      rw [List.idxOf_cons_self]
      exact ⟨rfl, Nat.succ_pos _, fun m z hm => absurd hm (Nat.not_lt_zero m)⟩
    · have h' : p ∈ t := by
        rcases List.mem_cons.mp h with h | h
        · exact absurd h.symm e
        · exact h
      obtain ⟨i1, i2, i3⟩ := idx_nums h'
      have ei : (x :: t).idxOf p = t.idxOf p + 1 := by
        rw [List.idxOf_cons, beq_eq_false_iff_ne.mpr e]
        rfl
      rw [ei]
      refine ⟨i1, Nat.succ_lt_succ i2, fun m z hm hz => ?_⟩
      cases m with
      | zero =>
        cases (Option.some.inj hz)
        exact beq_eq_false_iff_ne.mpr e
      | succ m => exact i3 m z (Nat.lt_of_succ_lt_succ hm) hz
theorem cut_to (xs : List V) (k : Nat) : cutV xs none (some (k : Int)) = xs.take k := by
  unfold cutV
  rw [HT.sIx_none, HT.sIx_nat, List.drop_zero, Nat.sub_zero]
  by_cases h : k ≤ xs.length
  · rw [Nat.min_eq_left h]
  · rw [Nat.min_eq_right (by omega), List.take_of_length_le (Nat.le_refl _), List.take_of_length_le (by omega)]
theorem cut_from (xs : List V) (k : Nat) : cutV xs (some (k : Int)) none = xs.drop k := by
  unfold cutV
  rw [HT.sIx_none, HT.sIx_nat]
  by_cases h : k ≤ xs.length
  · rw [Nat.min_eq_left h, List.take_of_length_le (by rw [List.length_drop]; exact Nat.le_refl _)]
  · rw [Nat.min_eq_right (by omega), List.drop_of_length_le (Nat.le_refl _), List.drop_of_length_le (by omega), List.take_nil]
/-- pages -/
def Pgs (l : List Int) : Prop := ∀ z ∈ l, 0 ≤ z ∧ z ≤ 39
theorem pgs_ok {l : List Int} (h : Pgs l) : pgsB 40 (l.map V.int) = true := by
  refine List.all_eq_true.mpr fun x hx => ?_
  obtain ⟨z, hz, rfl⟩ := List.mem_map.mp hx
  have := h z hz
  show (decide (0 ≤ z) && decide (z ≤ 40 - 1)) = true
  rw [decide_eq_true this.1, decide_eq_true (by omega : z ≤ 40 - 1)]
  rfl
theorem okv_nums {H : Hp} {a : Addr} {l : List Int} (e : H a = some (.lst (l.map V.int))) (hl : l.length ≤ 4000) : OkV H (.ref a) := by
  refine ⟨.inl ⟨_, e⟩, fun b xs eb eo => ?_⟩
  cases eb
  rw [e] at eo
  cases eo
  refine ⟨by rw [List.length_map]; exact hl, fun y hy => ?_⟩
  obtain ⟨z, _, rfl⟩ := List.mem_map.mp hy
  exact trivial
theorem vis_ok {H : Hp} {a : Addr} {l : List Int} (e : H a = some (.lst (l.map V.int))) (hl : l.length ≤ 300) (h : Pgs l) : itemsB visB H (.ref a) = true := by
  rw [itemsB_lst e]
  unfold visB
  rw [pgs_ok h, List.length_map]
  exact decide_eq_true hl
theorem trl_ok {H : Hp} {a : Addr} {l : List Int} (e : H a = some (.lst (l.map V.int))) (hn : l.Nodup) (h : Pgs l) : itemsB (difB 40) H (.ref a) = true := by
  rw [itemsB_lst e]
  unfold difB
  rw [pgs_ok h, nums_map]
  exact decide_eq_true hn
/-- the trails after each of the visits -/
def scan (t l : List Int) : List (List Int) := (List.range l.length).map fun i => play t (l.take (i + 1))

theorem FunD_ok0 {P : Program} {w : World} {K : PySem.W.Frag} {mg : PySem.Str → Option Value} {base : Heap} {x qual : PySem.Str} {params : Arguments} {body : List Stmt}
    {scope : Scope} {dvs : List V} {kws : List (PySem.Str × V)} {f : Addr} {fd : FuncData} {N ps : List PySem.Str} {k : Nat} {sp : Sp}
    (F : FunD K x qual params body scope dvs kws f fd) (S : FnScope N ps scope) (len : ∀ vs H Q E, sp vs H Q E → vs.length = ps.length)
    (hb : ∀ (cdv : Value) (A : Around) (outer : List Env) (s : Shared) (H : Hp) (vs : List V) (Q : VK) (E : XK),
      Room k (A.deeper (envOfC qual scope s.heap.objs.size f cdv)) → sp vs H Q E →
      ∃ t, PSs (cxOf CX0 P w K mg base N qual scope f cdv A outer s H E).nox body t ∧ t { nx := fun _ H' => Q .non H', rt := Q } (start N vs) H) :
    FnOk P w K mg base CX0 (k + 1) f fd ps sp :=
  F.ok S len fun cdv A outer s H vs Q E hr hsp => by
    obtain ⟨t, h, q⟩ := hb cdv A outer s H vs Q E hr hsp
    exact ⟨t, h.nox, q⟩

/-! ### lists of lists of ints -/
def Rows (H : Hp) : List Addr → List (List Int) → Prop := Paired fun a t => H a = some (.lst (t.map V.int))
theorem Rows.kept {H H' : Hp} : ∀ {as : List Addr} {ts : List (List Int)}, Rows H as ts → (∀ a ∈ as, H' a = H a) → Rows H' as ts
  | _, _, .nil, _ => .nil
  | _, _, .cons h r, k => .cons ((k _ List.mem_cons_self).trans h) (Rows.kept r fun a ha => k a (List.mem_cons_of_mem _ ha))
theorem Rows.same {H H' : Hp} (s : Same H H') : ∀ {as : List Addr} {ts : List (List Int)}, Rows H as ts → Rows H' as ts
  | _, _, .nil => .nil
  | _, _, .cons h r => .cons (s _ _ h) (Rows.same s r)
theorem Rows.snoc {H : Hp} {a : Addr} {t : List Int} (h : H a = some (.lst (t.map V.int))) : ∀ {as : List Addr} {ts : List (List Int)}, Rows H as ts → Rows H (as ++ [a]) (ts ++ [t])
  | _, _, .nil => .cons h .nil
  | _, _, .cons h' r => .cons h' (Rows.snoc h r)
theorem Rows.at {H : Hp} : ∀ {as : List Addr} {ts : List (List Int)} {i : Nat} {a : Addr}, Rows H as ts → as[i]? = some a → ∃ t, ts[i]? = some t ∧ H a = some (.lst (t.map V.int))
  | _, _, 0, _, .cons h _, e => by
    cases (Option.some.inj e)
    exact ⟨_, rfl, h⟩
  | _, _, i + 1, _, .cons _ r, e => Rows.at (i := i) r e
theorem Rows.mem {H : Hp} : ∀ {as : List Addr} {ts : List (List Int)} {a : Addr}, Rows H as ts → a ∈ as → ∃ t ∈ ts, H a = some (.lst (t.map V.int))
  | _, _, _, .nil, h => nomatch h
  | _, _, _, .cons h r, m => by
    rcases List.mem_cons.mp m with rfl | m
    · exact ⟨_, List.mem_cons_self, h⟩
    · obtain ⟨t, ht, e⟩ := Rows.mem r m
      exact ⟨t, List.mem_cons_of_mem _ ht, e⟩
theorem Rows.length {H : Hp} {as : List Addr} {ts : List (List Int)} (r : Rows H as ts) : as.length = ts.length := Paired.length r
def nnD (ts : List (List Int)) : PyData := .list (ts.map nD)
theorem dpa_rows {K : PySem.W.Frag} {H : Hp} : ∀ {as : List Addr} {ts : List (List Int)}, Rows H as ts → DpAll K H (as.map V.ref) (ts.map nD)
  | _, _, .nil => .nil
  | _, _, .cons h r => .cons (dp_nD (.inl (.inl h))) (dpa_rows r)
theorem dp_nnD {K : PySem.W.Frag} {H : Hp} {a : Addr} {as : List Addr} {ts : List (List Int)} (h : H a = some (.lst (as.map V.ref))) (r : Rows H as ts) : Dp K H (.ref a) (nnD ts) := .lst (.inl (.inl h)) (dpa_rows r)
theorem sh_nnD {ts : List (List Int)} {m : Nat} (h : ∀ t ∈ ts, t.length ≤ m ∧ ∀ z ∈ t, 0 ≤ z ∧ z ≤ 1000) : Sh 2 (ts.length * (m + 1)) (nnD ts) := by
  have h1 : Sh (1 + 1) ((ts.map nD).length * (m + 1)) (.list (ts.map nD)) := sh_list fun d hd => by
    obtain ⟨t, ht, rfl⟩ := List.mem_map.mp hd
    have := h t ht
    exact (sh_nD this.2).mono (Nat.le_refl _) this.1
  rw [List.length_map] at h1
  exact h1
theorem play_nodup_step {t : List Int} {p : Int} (h : t.Nodup) : (vis t p).Nodup := by
  unfold vis
  split
  · exact h.sublist (List.take_sublist _ _)
  · rename_i hp
    rw [List.nodup_append]
    refine ⟨h, by simp, fun a ha b hb e => ?_⟩
    rw [List.mem_singleton.mp hb] at e
    exact hp (e ▸ ha)
theorem play_nodup : ∀ (l : List Int) {t : List Int}, t.Nodup → (play t l).Nodup
  | [], _, h => h
  | p :: l, _, h => play_nodup l (play_nodup_step h)

/-! ### the same rules where the written part is named (in a comprehension's block) -/
section
variable {X : Cx} {K : PySem.W.Frag}
theorem ix_listK (hK : X.K = K) : IxR X (rIxL K) := hK ▸ ix_list
theorem ix_tupK (hK : X.K = K) : IxR X (rIxT K) := hK ▸ ix_tup
theorem sl_listK (hK : X.K = K) : SlR X (rSlL K) := hK ▸ sl_list
theorem op_inK (hK : X.K = K) : OpR X (compareOp .In) (rIn K false) := hK ▸ op_in_seq
theorem op_notInK (hK : X.K = K) : OpR X (compareOp .NotIn) (rIn K true) := hK ▸ op_notIn_seq
def rLenK (K : PySem.W.Frag) : List V → Hp → VK → Prop := fun xs H Q => ∃ p ys, xs = [.ref p] ∧ (SqL K H p ys ∨ SqT K H p ys) ∧ Q (.int ys.length) H
theorem call_lenK (hK : X.K = K) : CallR X (.builtin "len") (rLenK K) := hK ▸ call_len_seq
theorem call_isiK' (hK : X.K = K) : CallR X (.builtin "isinstance") (rIsi K) := hK ▸ call_isi
theorem mt_indexK (hK : X.K = K) : MtR X "list.index" (rIndex K) := hK ▸ mt_index
variable {o e : Expr} {es : List Expr} {to : TE} {t : TA} {name : PySem.Str} {apos cpos : Pos} {T id : String} {r : V → List V → Hp → VK → Prop}
theorem pe_bmK (hK : X.K = K) (pa : PlainAttrs T) (slot : Slot T name id) (hty : typeOf (.builtin id) = pure (.type "method_descriptor")) (hm : MtR X id r)
    (ho : PE X o to) (ha : PA X (e :: es) t) (hbase : attributeBase o name X.env (eval o X.env) = eval o X.env := by rfl)
    (hfew : ((backTo cpos (starEach (e :: es) X.env)).all (fun x => !x.1) && (backToKw cpos (keywordEach [] X.env)).all (fun x => x.1.isSome)
      && decide ((e :: es).length + ([] : List Keyword).length + (if ([] : List Keyword).isEmpty then 0 else 1) < 30)) = true := by rfl)
    (hline : (apos.endLine == cpos.line) = true := by rfl) (hs : starEach (e :: es) X.env = (false, eval e X.env) :: starEach es X.env := by rfl)
    (hplain : (backTo cpos (starEach es X.env)).any (·.1) = false := by rfl) :
    PE X (.Call (.Attribute o name apos) (e :: es) [] cpos) (tBM K T r to t) := by
  subst hK
  exact pe_bm pa slot hty hm ho ha hbase hfew hline hs hplain
end

theorem mapI_erase : ∀ (l : List Int) (j : Nat), (l.map V.int).eraseIdx j = (l.eraseIdx j).map V.int
  | [], _ => rfl
  | _ :: _, 0 => rfl
  | x :: l, j + 1 => by
    show V.int x :: (l.map V.int).eraseIdx j = V.int x :: (l.eraseIdx j).map V.int
    rw [mapI_erase l j]
theorem seq_nat {k n : Nat} (h : k < n) : seqIndex? (k : Int) n = some k := by
  unfold seqIndex?
  simp
  omega

theorem perm_erase {α : Type} : ∀ {l : List α} {k : Nat} (h : k < l.length), (l[k] :: l.eraseIdx k).Perm l
  | [], _, h => absurd h (Nat.not_lt_zero _)
  | _ :: _, 0, _ => .refl _
  | x :: l, k + 1, h => by
    have hk : k < l.length := Nat.lt_of_succ_lt_succ h
    have ih := perm_erase (l := l) hk
    show (l[k] :: x :: l.eraseIdx k).Perm (x :: l)
    exact (List.Perm.swap _ _ _).trans (ih.cons x)

theorem scan_last (t : List Int) : ∀ l : List Int, (t :: scan t l).getLast (List.cons_ne_nil _ _) = play t l := by
  intro l
  by_cases e : l = []
  · subst e
    rfl
  · have h0 : 0 < l.length := List.length_pos_iff.mpr e
    have h1 : scan t l ≠ [] := by
      unfold scan
      intro z
      have := congrArg List.length z
      rw [List.length_map, List.length_range] at this
      exact e (List.length_eq_zero_iff.mp this)
    rw [List.getLast_cons h1, List.getLast_eq_getElem]
    have hl : (scan t l).length = l.length := by
      unfold scan
      rw [List.length_map, List.length_range]
    have e2 : (scan t l)[(scan t l).length - 1]'(by omega) = play t (l.take (l.length - 1 + 1)) := by
      unfold scan
      rw [List.getElem_map, List.getElem_range, List.length_map, List.length_range]
    rw [e2, show l.length - 1 + 1 = l.length by omega, List.take_length]
theorem Rows.last {H : Hp} : ∀ {as : List Addr} {ts : List (List Int)} (h : Rows H as ts) (ne : ts ≠ []), ∃ x, atI (as.map V.ref) (-1) = some (.ref x) ∧ H x = some (.lst ((ts.getLast ne).map V.int)) := by
  intro as ts h ne
  have hl := h.length
  have ha : as ≠ [] := fun z => by
    subst z
    exact ne (List.length_eq_zero_iff.mp hl.symm)
  have e : as.map V.ref = as.dropLast.map V.ref ++ [.ref (as.getLast ha)] := by
    rw [← List.map_singleton, ← List.map_append, List.dropLast_concat_getLast]
  refine ⟨as.getLast ha, by rw [e]; exact atI_last _ _, ?_⟩
  have pos : 0 < as.length := List.length_pos_iff.mpr ha
  have g : as[as.length - 1]? = some (as.getLast ha) := by
    rw [List.getLast_eq_getElem, List.getElem?_eq_getElem]
  obtain ⟨t, ht, eo⟩ := h.at g
  have et : t = ts.getLast ne := by
    rw [List.getLast_eq_getElem]
    rw [hl, List.getElem?_eq_getElem (by omega)] at ht
    exact (Option.some.inj ht).symm
  rw [← et]
  exact eo
theorem scan_len (t l : List Int) : (scan t l).length = l.length := by
  unfold scan
  rw [List.length_map, List.length_range]

theorem pgs0 : Pgs [] := fun _ h => nomatch h
/-- the script, beside a pool -/
def Apart (K : PySem.W.Frag) (a p : Addr) (xs : List V) : Prop := a ≠ p ∨ ∀ H' : Hp, SqL K H' a xs
theorem But.seq2 {K : PySem.W.Frag} {p a : Addr} {H H' : Hp} {xs : List V} (s : But p H H') (n : Apart K a p xs) (h : SqL K H a xs) : SqL K H' a xs := by
  rcases n with n | n
  · exact s.seq n h
  · exact n H'
theorem apart_of {K : PySem.W.Frag} {a p : Addr} {H : Hp} {xs : List V} (h : SqL K H a xs) (hp : H p = none) : Apart K a p xs := by
  rcases h with h | h
  · left
    intro e
    subst e
    rcases h with h | ⟨o, h⟩ <;> (rw [hp] at h; cases h)
  · exact .inr fun H' => .inr h
theorem take_filter {α : Type} (f : α → Bool) {l : List α} {i : Nat} {x : α} (h : l[i]? = some x) :
    (l.take (i + 1)).filter f = (l.take i).filter f ++ (if f x = true then [x] else []) := by
  rw [List.take_add_one, h, List.filter_append]
  congr 1
  show List.filter f [x] = _
  rw [List.filter_cons]
  rfl
theorem at_nums {ns : List Int} {i : Nat} {x : V} (h : (ns.map V.int)[i]? = some x) : ∃ z, ns[i]? = some z ∧ x = .int z := by
  rw [List.getElem?_map] at h
  cases e : ns[i]? with
  | none => rw [e] at h; cases h
  | some z => rw [e] at h; cases h; exact ⟨z, rfl, rfl⟩

/-! ### repr of a value that may be, or hold, an empty dict -/
section
variable {prog : Program} {w : World} {A : Around} {E : Value → Shared → Prop} {s : Shared} {h₀ : Heap}
def ItemOk (h₀ : Heap) (k : Nat) (u : Value) (d : PyData) : Prop := ∃ as, Reads h₀ u d as ∧ d.showable = true ∧ (d.hasDict = true → sysModules ∉ as) ∧ d.shown.length ≤ sizeLine ∧ d.depth ≤ k
theorem items_K {k : Nat} : ∀ {us : List Value} {ds : List PyData}, Paired (ItemOk h₀ k) us ds →
    ∃ bs, ReadAtMost h₀ k bs ∧ ReprAllK prog w bs h₀ k us (PyData.shownAll ds)
  | _, _, .nil => ⟨[], (fun _ z => nomatch z), by simp only [PyData.shownAll]; exact ReprAllK.nil⟩
  | _, _, .cons h r => by
    obtain ⟨as, r1, h1, h2, h3, h4⟩ := h
    obtain ⟨b1, m1, k1⟩ := ReprK.of_reads (prog := prog) (w := w) r1 h1 h2 h3
    obtain ⟨b2, m2, k2⟩ := items_K r
    refine ⟨b1 ++ b2, (m1.mono h4).append m2, ?_⟩
    have c1 := ReprAllK.more_le (as' := b1 ++ b2) (d' := k) (fun b hb => List.mem_append_left _ hb) h4 (ReprAllK.cons k1 ReprAllK.nil)
    have c2 := k2.more_le (as' := b1 ++ b2) (d' := k) (fun b hb => List.mem_append_right _ hb) (Nat.le_refl k)
    simp only [PyData.shownAll]
    cases c1 with
    | cons a1 _ => exact ReprAllK.cons a1 c2
theorem reads_of_items {k : Nat} : ∀ {us : List Value} {ds : List PyData}, Paired (ItemOk h₀ k) us ds → ∃ as, ReadsAll h₀ us ds as
  | _, _, .nil => ⟨_, .nil⟩
  | _, _, .cons h r => by
    obtain ⟨as, r1, _⟩ := h
    obtain ⟨bs, r2⟩ := reads_of_items r
    exact ⟨_, .cons r1 r2⟩
theorem shownAll_len : ∀ ds : List PyData, (PyData.shownAll ds).length = ds.length
  | [] => by simp only [PyData.shownAll, List.length_nil]
  | d :: ds => by
    simp only [PyData.shownAll, List.length_cons]
    rw [shownAll_len ds]
theorem depth_items {k : Nat} : ∀ {us : List Value} {ds : List PyData}, Paired (ItemOk h₀ k) us ds → PyData.depthAll ds ≤ k
  | _, _, .nil => by simp only [PyData.depthAll]; exact Nat.zero_le _
  | _, _, .cons h r => by
    obtain ⟨as, _, _, _, _, h4⟩ := h
    simp only [PyData.depthAll]
    exact Nat.max_le.mpr ⟨h4, depth_items r⟩
theorem repr_mixed {a : Addr} {us : List Value} {n k : Nat} {ds : List PyData} {Q : Value → Shared → Prop}
    (e : s.heap.get? a = some { cls := .type "list", data := .seq us.toArray n }) (hp : Paired (ItemOk s.heap k) us ds)
    (hG : A.guards = some []) (hu : A.units + (k + 3) < cLine) (hk : PyData.depthAll ds = k)
    (hsz : (PyData.list ds).shown.length ≤ sizeLine)
    (hQ : ∀ h' u tk, (∀ b o, s.heap.get? b = some o → h'.get? b = some o) → Q (.str (PyData.list ds).shown u) { s with heap := h', toks := tk }) :
    wpAny (model prog w) A (call (.builtin "repr") [.ref a]) Q E s := by
  refine call_repr_slot (by omega) ⟨_, e, rfl⟩ F.slot_list_repr.toG ?_
  have sh : (PyData.list ds).shown = listText (PyData.shownAll ds) := by simp only [PyData.shown]
  rw [sh] at hsz hQ
  cases us with
  | nil =>
    cases hp
    exact call_list_repr_empty ⟨_, e, rfl⟩ e rfl ⟨_, _, rfl, hQ s.heap _ _ fun _ _ z => z⟩
  | cons u us =>
    obtain ⟨bs, m, K⟩ := items_K (prog := prog) (w := w) hp
    obtain ⟨as, R⟩ := reads_of_items hp
    have r : Reads s.heap (.ref a) (.list ds) (a :: as) := Reads.list e rfl rfl (by simpa using R)
    have na : a ∉ bs := not_mem_of_deeper (n := k) r (by simp only [PyData.depth]; omega) m
    refine call_list_reprK e rfl rfl na (by simpa using K.length_eq) (fun i y z => K.item i y (by simpa using z)) hG (fun b _ => Clear.nil b) (show A.units + 1 + (k + 1) < cLine by omega) (fun _ _ z => z) (fun h' u' tk hkp => ⟨_, _, rfl, hQ h' u' tk hkp⟩) hsz
end
/-- an item: data without a dict, or an empty dict -/
def D0 (K : PySem.W.Frag) (H : Hp) (x : V) (d : PyData) : Prop := (Dp K H x d ∧ Sh 10 500 d) ∨ ∃ a, x = .ref a ∧ H a = some (.dK []) ∧ d = .dict []
/-- what repr shows -/
def Shw (K : PySem.W.Frag) (H : Hp) (x : V) (t : PySem.Str) : Prop :=
  (∃ d, Dp K H x d ∧ Sh 20 300000 d ∧ t = d.shown) ∨ (∃ a, x = .ref a ∧ H a = some (.dK []) ∧ t = (PyData.dict []).shown) ∨
    ∃ a xs ds, x = .ref a ∧ H a = some (.lst xs) ∧ Paired (D0 K H) xs ds ∧ xs.length ≤ 700 ∧ t = (PyData.list ds).shown
mutual
theorem dp_same {K : PySem.W.Frag} {H H' : Hp} (s : Same H H') : ∀ {v : V} {d : PyData}, Dp K H v d → Dp K H' v d
  | _, _, .non => .non
  | _, _, .bl b => .bl b
  | _, _, .int i => .int i
  | _, _, .str x => .str x
  | _, _, .lst h r => .lst (s.seq h) (dpa_same s r)
  | _, _, .tup h r => .tup (by
      rcases h with (h | ⟨o, h⟩) | h
      · exact .inl (.inl (s _ _ h))
      · exact .inl (.inr ⟨o, s _ _ h⟩)
      · exact .inr h) (dpa_same s r)
theorem dpa_same {K : PySem.W.Frag} {H H' : Hp} (s : Same H H') : ∀ {vs : List V} {ds : List PyData}, DpAll K H vs ds → DpAll K H' vs ds
  | _, _, .nil => .nil
  | _, _, .cons h r => .cons (dp_same s h) (dpa_same s r)
end
theorem d0_same {K : PySem.W.Frag} {H H' : Hp} (s : Same H H') : ∀ {xs : List V} {ds : List PyData}, Paired (D0 K H) xs ds → Paired (D0 K H') xs ds
  | _, _, .nil => .nil
  | _, _, .cons h r => .cons (by
      rcases h with ⟨h, z⟩ | ⟨a, rfl, e, rfl⟩
      · exact .inl ⟨dp_same s h, z⟩
      · exact .inr ⟨a, rfl, s _ _ e, rfl⟩) (d0_same s r)
theorem Shw.same {K : PySem.W.Frag} {H H' : Hp} (s : Same H H') {x : V} {t : PySem.Str} (h : Shw K H x t) : Shw K H' x t := by
  rcases h with ⟨d, h, z⟩ | ⟨a, rfl, e, rfl⟩ | ⟨a, xs, ds, rfl, e, h, z⟩
  · exact .inl ⟨d, dp_same s h, z⟩
  · exact .inr (.inl ⟨a, rfl, s _ _ e, rfl⟩)
  · exact .inr (.inr ⟨a, xs, ds, rfl, s _ _ e, d0_same s h, z⟩)
section
variable {X : Cx} {pins : List (Addr × Obj)} {σ : L2.St} {H : Hp} {s : Shared}
theorem item_of (I : Inv X pins σ H s) {x : V} {u : Value} {d : PyData} (h : D0 X.K H x d) (r : RelV x u) : ItemOk s.heap 10 u d := by
  rcases h with ⟨h, z⟩ | ⟨a, rfl, e, rfl⟩
  · obtain ⟨as, hr⟩ := Dp.reads I d x u h r
    exact ⟨as, hr, z.showable, PyData.noDict_hsm z.noDict, z.fits (by decide), z.deep⟩
  · cases (show u = Value.ref a from r)
    obtain ⟨_, hsys, vs, kv, o, es, ep, e1, ex, e2, _, hm, _⟩ := (show ObjOk X.prog X.w H s.heap a (.dK []) from I.hok a _ e)
    cases kv
    have el : es.toList = [] := by
      cases hq : es.toList with
      | nil => rfl
      | cons x r =>
        rw [hq] at hm
        cases hm
    have rd : Reads s.heap (.ref a) (.dict []) (a :: [] ++ []) := Reads.dict e1 ex.1 e2 (by rw [el]; exact ReadsAll.nil) (by rw [el]; exact ReadsAll.nil)
    refine ⟨_, rd, by simp only [PyData.showable, PyData.showableKv], fun _ z => ?_, by simp only [PyData.shown, PyData.shownKv]; decide, by simp only [PyData.depth, PyData.depthKv]; decide⟩
    have : sysModules = a := by simpa using z
    rw [← this] at hsys
    exact absurd hsys (by simp)
theorem items_of (I : Inv X pins σ H s) : ∀ {xs : List V} {us : List Value} {ds : List PyData}, Paired (D0 X.K H) xs ds → Vals xs us → Paired (ItemOk s.heap 10) us ds
  | _, _, _, .nil, .nil => .nil
  | _, _, _, .cons h r, .cons h2 r2 => .cons (item_of I h h2) (items_of I r r2)
theorem Paired.mapK {k m : Nat} : ∀ {us : List Value} {ds : List PyData}, Paired (ItemOk s.heap k) us ds → PyData.depthAll ds ≤ m → Paired (ItemOk s.heap m) us ds
  | _, _, .nil, _ => .nil
  | _, _, .cons h r, hd => by
    simp only [PyData.depthAll] at hd
    obtain ⟨as, h1, h2, h3, h4, h5⟩ := h
    exact .cons ⟨as, h1, h2, h3, h4, Nat.le_trans (Nat.le_max_left _ _) hd⟩ (Paired.mapK r (Nat.le_trans (Nat.le_max_right _ _) hd))
theorem bulk_items : ∀ {xs : List V} {ds : List PyData}, Paired (D0 X.K H) xs ds → PyData.leavesShortAll 40 ds = true ∧ PyData.bulkAll ds ≤ ds.length * 501
  | _, _, .nil => by
    simp only [PyData.leavesShortAll, PyData.bulkAll]
    exact ⟨trivial, Nat.zero_le _⟩
  | _, _, .cons h r => by
    obtain ⟨h1, h2⟩ := bulk_items r
    have hd : ∀ {x : V} {d : PyData}, D0 X.K H x d → d.leavesShort 40 = true ∧ d.bulk ≤ 500 := by
      rintro x d (⟨_, z⟩ | ⟨a, rfl, _, rfl⟩)
      · exact ⟨z.short, z.bulk⟩
      · simp only [PyData.leavesShort, PyData.leavesShortKv, PyData.bulk, PyData.bulkKv]
        exact ⟨trivial, Nat.zero_le _⟩
    obtain ⟨h3, h4⟩ := hd h
    simp only [PyData.leavesShortAll, PyData.bulkAll]
    rw [h3, h1, List.length_cons, Nat.add_mul]
    exact ⟨rfl, by omega⟩
def rShowA (K : PySem.W.Frag) : List V → Hp → VK → Prop := fun xs H Q => ∃ x t, xs = [x] ∧ Shw K H x t ∧ Q (.str t) H
theorem call_showA (hG : X.A.guards = some []) (hu : X.A.units + 200 < cLine) : CallR X (.builtin "repr") (rShowA X.K) := by
  intro pins s σ H xs us Q I r h
  obtain ⟨x, t, rfl, h, q⟩ := h
  obtain ⟨u, rfl, rx⟩ := vals1 r
  rcases h with ⟨d, hd, z, rfl⟩ | ⟨a, rfl, e, rfl⟩ | ⟨a, xs, ds, rfl, e, hp, hl, rfl⟩
  · have fit := z.fits (by decide)
    cases hd with
    | non =>
      cases rx
      exact P.repr_of_none ⟨.str "None", H, I.tok _, ⟨_, rfl⟩, q⟩
    | bl b =>
      cases rx
      cases b
      · exact P.repr_of_bool ⟨.str (PyData.bool false).shown, H, I.tok _, ⟨_, rfl⟩, q⟩
      · exact P.repr_of_bool ⟨.str (PyData.bool true).shown, H, I.tok _, ⟨_, rfl⟩, q⟩
    | int i =>
      obtain ⟨tk, rfl⟩ := rx
      have hz : i.natAbs.log2 < 1920 := by
        have := z.showable
        simp only [PyData.showable] at this
        exact of_decide_eq_true this
      exact P.repr_of_int hz ⟨.str (PyData.int i).shown, H, I.tok _, ⟨_, rfl⟩, q⟩
    | str y =>
      obtain ⟨tk, rfl⟩ := rx
      exact P.repr_of_str ⟨.str (PyData.str y).shown, H, I.tok _, ⟨_, rfl⟩, q⟩ fit
    | @lst a xs ds hs ha =>
      obtain ⟨as, hr⟩ := Dp.reads I (.list ds) (.ref a) u (.lst hs ha) rx
      cases (show u = Value.ref a from rx)
      exact repr_of_reads' hr z.showable (PyData.noDict_hsm z.noDict) hG (by have := z.deep; omega) (fun _ _ e => e)
        (fun h' u tk hk => ⟨.str (PyData.list ds).shown, H, I.kept hk, ⟨_, rfl⟩, q⟩) fit
    | @tup a xs ds hs ha =>
      obtain ⟨as, hr⟩ := Dp.reads I (.tuple ds) (.ref a) u (.tup hs ha) rx
      cases (show u = Value.ref a from rx)
      exact repr_of_reads' hr z.showable (PyData.noDict_hsm z.noDict) hG (by have := z.deep; omega) (fun _ _ e => e)
        (fun h' u tk hk => ⟨.str (PyData.tuple ds).shown, H, I.kept hk, ⟨_, rfl⟩, q⟩) fit
  · obtain ⟨as, hr, h1, h2, h3, h4⟩ := item_of I (d := .dict []) (.inr ⟨a, rfl, e, rfl⟩) rx
    cases (show u = Value.ref a from rx)
    exact repr_of_reads' hr h1 h2 hG (by omega) (fun _ _ e => e) (fun h' u tk hk => ⟨.str (PyData.dict []).shown, H, I.kept hk, ⟨_, rfl⟩, q⟩) h3
  · cases (show u = Value.ref a from rx)
    obtain ⟨z, its, n, rv, hl', e1⟩ := I.lstM e
    have hi := items_of I hp rv
    obtain ⟨b1, b2⟩ := bulk_items hp
    have hdep := depth_items hi
    have hlen : ds.length = xs.length := (Paired.length hp).symm
    have fit : (PyData.list ds).shown.length ≤ sizeLine := by
      have b3 := PyData.shown_le_bulk 40 (by decide) (.list ds) (by simp only [PyData.leavesShort]; exact b1)
      have b4 : (PyData.list ds).bulk ≤ 700 * 501 := by
        simp only [PyData.bulk]
        exact Nat.le_trans b2 (Nat.mul_le_mul_right _ (by omega))
      have e16 : sizeLine = 16777216 := by decide
      rw [e16]
      omega
    exact repr_mixed e1 (Paired.mapK hi (Nat.le_refl _)) hG (show X.A.units + (PyData.depthAll ds + 3) < cLine by omega) rfl fit
      fun h' u tk hk => ⟨.str (PyData.list ds).shown, H, I.kept hk, ⟨_, rfl⟩, q⟩
end

/-! ### judged values in a later heap -/
theorem okv_same {H H' : Hp} (s : Same H H') {x : V} (h : OkV H x) : OkV H' x := by
  refine ⟨h.1.same s, fun a xs ex e => ?_⟩
  subst ex
  rcases h.1 with ⟨ys, e1⟩ | ⟨ys, e1⟩ | ⟨ks, e1⟩
  · have e2 := s _ _ e1
    rw [e] at e2
    cases e2
    obtain ⟨h1, h2⟩ := h.2 a xs rfl e1
    exact ⟨h1, fun y hy => (h2 y hy).same s⟩
  · have e2 := s _ _ e1
    rw [e] at e2
    cases e2
  · have e2 := s _ _ e1
    rw [e] at e2
    cases e2
theorem itemsB_same {f : List V → Bool} {H H' : Hp} (s : Same H H') : ∀ {x : V}, Kn H x → itemsB f H' x = itemsB f H x
  | .non, _ => rfl
  | .bl _, _ => rfl
  | .int _, _ => rfl
  | .str _, _ => rfl
  | .ref a, h => by
    show (match H' a with
      | some (.lst xs) => f xs
      | _ => false) = (match H a with
      | some (.lst xs) => f xs
      | _ => false)
    rcases h with ⟨xs, e⟩ | ⟨xs, e⟩ | ⟨ks, e⟩ <;> rw [s _ _ e, e]
theorem vis_le {H : Hp} {x : V} {a : Addr} {xs : List V} (h : OkV H x) (ex : x = .ref a) (e : H a = some (.lst xs)) : xs.length ≤ 4000 := (h.2 a xs ex e).1
/-- a comprehension over enumerate(a list) -/
theorem lc_enum {K : PySem.W.Frag} {a : Addr} {xs : List V} {g : TG} {tt : TT} {te : TE} {vs : List Nat} {σ : L2.St} {H1 : Hp} {D : Addr} {Qd : Hp → Prop}
    (Pv : Nat → Hp → Prop) (h0 : Pv 0 (upd H1 D (.lst []))) (hl : ∀ i H, i ≤ xs.length → Pv i H → SqL K H a xs)
    (hs : ∀ i x H T, xs[i]? = some x → Pv i H → H T = none → g (.ref T) (wipe σ vs) (upd H T (.tup [.int (i : Nat), x])) fun σ2 H2 => wipe σ2 vs = wipe σ vs ∧ tt σ2 H2 fun b H3 =>
      if b = true then te σ2 H3 fun y H4 => ∃ acc, H4 D = some (.lst acc) ∧ acc.length < sizeLine ∧ Pv (i + 1) (upd H4 D (.lst (acc ++ [y]))) else Pv (i + 1) H3)
    (hd : ∀ H, Pv xs.length H → Qd H) :
    ∃ W : Nat → Nat → Hp → Prop, (∃ m, W 0 m (upd H1 D (.lst []))) ∧ ∀ i m H, W i m H →
      ((Ite K a).stop i H ∧ Qd H) ∨ ((Ite K a).go i H ∧ ∃ Nx : Hp → Prop, (∀ H', Nx H' → ∃ m', m' < m ∧ W (i + 1) m' H') ∧
        ∀ x H', (Ite K a).yld i H x H' → g x (wipe σ vs) H' fun σ2 H2 => wipe σ2 vs = wipe σ vs ∧ tt σ2 H2 fun b H3 =>
        if b = true then te σ2 H3 fun y H4 => ∃ acc, H4 D = some (.lst acc) ∧ acc.length < sizeLine ∧ Nx (upd H4 D (.lst (acc ++ [y]))) else Nx H3) := by
  refine ⟨fun i m H => m = xs.length - i ∧ i ≤ xs.length ∧ Pv i H, ⟨xs.length, rfl, Nat.zero_le _, h0⟩, fun i m H hW => ?_⟩
  obtain ⟨rfl, hi, p⟩ := hW
  have q := hl i H hi p
  by_cases lt : i < xs.length
  · refine .inr ⟨⟨xs, xs[i], q, List.getElem?_eq_getElem lt⟩, Pv (i + 1), fun H' p' => ⟨xs.length - (i + 1), by omega, rfl, lt, p'⟩, fun v H' y => ?_⟩
    obtain ⟨T, x, rfl, hT, rfl, f⟩ := y
    exact hs i x H T (f xs q) p hT
  · have e : i = xs.length := by omega
    subst e
    exact .inl ⟨⟨xs, q, Nat.le_refl _⟩, hd H p⟩
theorem nodup_take {ns : List Int} {i : Nat} {z : Int} (h : ns[i]? = some z) : (ns.take (i + 1)).Nodup ↔ (ns.take i).Nodup ∧ z ∉ ns.take i := by
  rw [List.take_add_one, h]
  show (ns.take i ++ [z]).Nodup ↔ _
  rw [List.nodup_append]
  constructor
  · rintro ⟨h1, _, h3⟩
    exact ⟨h1, fun hz => h3 z hz z (List.mem_singleton.mpr rfl) rfl⟩
  · rintro ⟨h1, h2⟩
    exact ⟨h1, List.pairwise_singleton _ _, fun a ha b hb e => h2 (by rw [List.mem_singleton.mp hb] at e; rw [← e]; exact ha)⟩

theorem pg_tupK {X : Cx} {K : PySem.W.Frag} {pos : Pos} {es : List Expr} {k : Nat} {t : TGs} {n : Nat} (hK : X.K = K) (hc : X.calm = true) (h : PGs X es t)
    (hn : (assignEach es X.env).length = n := by rfl) (hst : (assignEach es X.env).findIdx? (·.1) = none := by rfl) :
    PG X (.Tuple es k pos) (gTup K n t) := by
  subst hK
  exact pg_tup hc h hn hst

/-! ### good items, good values -/
theorem sh_big {z : Int} (h : z.natAbs < 10 ^ 38) : Sh 0 0 (.int z) where
  showable := by
    show decide (z.natAbs.log2 < 1920) = true
    refine decide_eq_true ?_
    by_cases e : z.natAbs = 0
    · rw [e]
      decide
    · refine (Nat.log2_lt e).mpr (Nat.lt_of_lt_of_le h ?_)
      exact Nat.le_trans (show 10 ^ 38 ≤ 2 ^ 128 by decide) (Nat.pow_le_pow_right (by decide) (by decide))
  noDict := by simp only [PyData.hasDict]
  lay := by simp only [PyData.canLay0]
  short := by
    simp only [PyData.leavesShort]
    have e := int_text_length_le10 (k := 38) (by decide) h
    have e2 : (PyData.shown (.int z)).length = (toString z).length := PySem.ofString_length _
    exact decide_eq_true (by rw [e2]; omega)
  deep := by simp only [PyData.depth]; exact Nat.le_refl 0
  bulk := by simp only [PyData.bulk]; exact Nat.le_refl 0
structure Gd (K : PySem.W.Frag) (H : Hp) (x : V) : Prop where
  kn : Kn H x
  d0 : ∃ d, D0 K H x d
theorem Gd.same {K : PySem.W.Frag} {H H' : Hp} {x : V} (s : Same H H') (h : Gd K H x) : Gd K H' x := by
  obtain ⟨d, hd⟩ := h.d0
  refine ⟨h.kn.same s, d, ?_⟩
  rcases hd with ⟨h1, z⟩ | ⟨a, rfl, e, rfl⟩
  · exact .inl ⟨dp_same s h1, z⟩
  · exact .inr ⟨a, rfl, s _ _ e, rfl⟩
theorem gd_int {K : PySem.W.Frag} {H : Hp} {z : Int} (h : z.natAbs < 10 ^ 38) : Gd K H (.int z) := ⟨trivial, _, .inl ⟨.int z, (sh_big h).mono (by decide) (by decide)⟩⟩
theorem gd_bl {K : PySem.W.Frag} {H : Hp} (b : Bool) : Gd K H (.bl b) := by
  refine ⟨trivial, _, .inl ⟨.bl b, ?_⟩⟩
  cases b <;> exact ⟨by simp only [PyData.showable], by simp only [PyData.hasDict], by simp only [PyData.canLay0], by simp only [PyData.leavesShort], by simp only [PyData.depth]; decide, by simp only [PyData.bulk]; decide⟩
theorem gd_non {K : PySem.W.Frag} {H : Hp} : Gd K H .non :=
  ⟨trivial, _, .inl ⟨.non, by simp only [PyData.showable], by simp only [PyData.hasDict], by simp only [PyData.canLay0], by simp only [PyData.leavesShort], by simp only [PyData.depth]; decide, by simp only [PyData.bulk]; decide⟩⟩
theorem gd_str {K : PySem.W.Frag} {H : Hp} {x : PySem.Str} (h : PyData.canLay0 (.str x) = true) (h2 : PyData.leavesShort 40 (.str x) = true) (h3 : x.cps.size ≤ 400) : Gd K H (.str x) :=
  ⟨trivial, _, .inl ⟨.str x, by simp only [PyData.showable], by simp only [PyData.hasDict], h, h2, by simp only [PyData.depth]; decide, by simp only [PyData.bulk]; omega⟩⟩
theorem gd_dict {K : PySem.W.Frag} {H : Hp} {a : Addr} (e : H a = some (.dK [])) : Gd K H (.ref a) := ⟨.inr (.inr ⟨_, e⟩), _, .inr ⟨a, rfl, e, rfl⟩⟩
theorem gd_tup1 {K : PySem.W.Frag} {H : Hp} {a : Addr} (e : H a = some (.tup [.int 1])) : Gd K H (.ref a) := by
  refine ⟨.inr (.inl ⟨_, e⟩), .tuple [.int 1], .inl ⟨.tup (.inl (.inl e)) (.cons (.int 1) .nil), ?_⟩⟩
  exact (sh_tuple (k := 0) (n := 0) (ds := [.int 1]) fun d hd => by rw [List.mem_singleton.mp hd]; exact sh_int (by decide)).mono (by decide) (by decide)
theorem gd_nums {K : PySem.W.Frag} {H : Hp} {a : Addr} {l : List Int} (e : H a = some (.lst (l.map V.int))) (h : ∀ z ∈ l, 0 ≤ z ∧ z ≤ 1000) (hl : l.length ≤ 500) : Gd K H (.ref a) :=
  ⟨.inl ⟨_, e⟩, nD l, .inl ⟨dp_nD (.inl (.inl e)), (sh_nD h).mono (by decide) hl⟩⟩
theorem gd_paired {K : PySem.W.Frag} {H : Hp} : ∀ {xs : List V}, (∀ x ∈ xs, Gd K H x) → ∃ ds, Paired (D0 K H) xs ds
  | [], _ => ⟨[], .nil⟩
  | x :: xs, h => by
    obtain ⟨d, hd⟩ := (h x List.mem_cons_self).d0
    obtain ⟨ds, hp⟩ := gd_paired fun y hy => h y (List.mem_cons_of_mem _ hy)
    exact ⟨d :: ds, .cons hd hp⟩
/-- a value to be judged and shown -/
def Jd (K : PySem.W.Frag) (H : Hp) (x : V) : Prop := OkV H x ∧ ∃ t, Shw K H x t
theorem Jd.same {K : PySem.W.Frag} {H H' : Hp} {x : V} (s : Same H H') (h : Jd K H x) : Jd K H' x := by
  obtain ⟨h1, t, h2⟩ := h
  exact ⟨okv_same s h1, t, h2.same s⟩
theorem jd_list {K : PySem.W.Frag} {H : Hp} {a : Addr} {xs : List V} (e : H a = some (.lst xs)) (hl : xs.length ≤ 700) (h : ∀ x ∈ xs, Gd K H x) : Jd K H (.ref a) := by
  obtain ⟨ds, hp⟩ := gd_paired h
  refine ⟨⟨.inl ⟨_, e⟩, fun b ys eb ey => ?_⟩, _, .inr (.inr ⟨a, xs, ds, rfl, e, hp, hl, rfl⟩)⟩
  cases eb
  rw [e] at ey
  cases ey
  exact ⟨by omega, fun y hy => (h y hy).kn⟩
theorem jd_gd {K : PySem.W.Frag} {H : Hp} {x : V} (h : Gd K H x) (hn : ∀ a xs, x = .ref a → H a ≠ some (.lst xs)) : Jd K H x := by
  refine ⟨⟨h.kn, fun a xs ex e => absurd e (hn a xs ex)⟩, ?_⟩
  obtain ⟨d, hd⟩ := h.d0
  rcases hd with ⟨h1, z⟩ | ⟨a, rfl, e, rfl⟩
  · exact ⟨_, .inl ⟨d, h1, z.mono (by decide) (by decide), rfl⟩⟩
  · exact ⟨_, .inr (.inl ⟨a, rfl, e, rfl⟩)⟩
theorem jd_tup {K : PySem.W.Frag} {H : Hp} {a : Addr} {l : List Int} (e : H a = some (.tup (l.map V.int))) (h : ∀ z ∈ l, 0 ≤ z ∧ z ≤ 1000) (hl : l.length ≤ 1000) : Jd K H (.ref a) := by
  refine ⟨⟨.inr (.inl ⟨_, e⟩), fun b ys eb ey => ?_⟩, _, .inl ⟨.tuple (l.map .int), .tup (.inl (.inl e)) (dpa_nums l), ?_, rfl⟩⟩
  · cases eb
    rw [e] at ey
    cases ey
  · have h1 := sh_tuple (k := 0) (n := 0) (ds := l.map PyData.int) fun d hd => by
      obtain ⟨z, hz, rfl⟩ := List.mem_map.mp hd
      have := h z hz
      exact sh_int (by omega)
    rw [List.length_map] at h1
    exact h1.mono (by decide) (by omega)
theorem mem_rep {α : Type} {k : Nat} {xs : List α} {x : α} (h : x ∈ (List.replicate k xs).flatten) : x ∈ xs := by
  obtain ⟨l, hl, hx⟩ := List.mem_flatten.mp h
  rw [List.eq_of_mem_replicate hl] at hx
  exact hx
theorem len_rep {α : Type} (k : Nat) (xs : List α) : (List.replicate k xs).flatten.length = k * xs.length := by
  rw [List.length_flatten, List.map_replicate, List.sum_replicate_nat]
end Vf

set_option Elab.async false
set_option linter.all false
set_option maxRecDepth 100000
/-! set(a list of whole numbers) -/
namespace Vf
open PySem PySem.Spec PyProof.Rows L2
section
variable {P : Program} {w : World} {A : Around} {E : Value → Shared → Prop} {s : Shared}
/-- an empty set as it is first laid -/
abbrev eSet (w : World) : Obj := { cls := .type "set", dict := none, data := .set #[] 0 (.fresh 0 0 (!w.params.followText "set-order")) }
/-- what is left when the list's numbers are put into the set at S -/
def Filled (w : World) (s : Shared) (S : Addr) (ns : List Int) (t : Shared) : Prop :=
  ∃ h' tk c, t = { s with heap := h', toks := tk } ∧ SetR w h' S (fun j => decide (j ∈ ns)) c ∧ c ≤ ns.length ∧ ∀ b o, s.heap.get? b = some o → h'.get? b = some o
theorem setR_first {h : Heap} {a : Addr} {ns : List Int} (ho : h.get? a = some (eSet w)) : SetR w h a (fun j => decide (j ∈ ns.take 0)) 0 :=
  setR_new_at ho
set_option maxHeartbeats 3200000 in
theorem set_of_list {l : Addr} {items : Array Value} {ns : List Int} {Q : Value → Shared → Prop} (quiet : A.handled = none) (isl : s.heap.IsList l items) (ints0 : IntsAre items.toList ns)
    (few : ns.length + 1 < scanBound) (q : ∀ t, Filled w s s.heap.objs.size ns t → Q (.ref s.heap.objs.size) t) : wpAny (model P w) A (call (.type "set") [.ref l]) Q E s := by
  have size : items.size = ns.length := by rw [← IntsAre.length ints0, Array.length_toList]
  obtain ⟨c0, tl0, m0⟩ := F.called_set.mro
  have m1 := F.called_set.made
  have m2 := F.called_set.sub
  have m3 := F.called_set.notType
  have m4 := F.called_set.canCreate
  have m5 := F.typeCall_set_1 (.ref l)
  apply wpAny_call; apply codeAny_of_tree
  show wpAny _ _ (callAny (.type "set") _) _ _ _
  refine wpAny_pure ⟨Code.quiet_builtin _ (by decide +kernel), codeAny_builtin F.entry_type_call ?_⟩
  rw [Around.under_plain (weight_type_call_type "set" [.ref l] []) rfl]
  repeat any_goals first | assumption | wp_step
  have made := code_set_led1 (P := P) (w := w) (A := A.in1) (s := s) (.ref l) (E := E) (Q₁ := fun v t => v = .ref s.heap.objs.size ∧ t = { s with heap := s.heap.push (eSet w) }) ⟨rfl, rfl⟩
  refine codeAny_mono made fun r t ht => ?_
  match r, ht with
  | .error _, ht => exact ht
  | .ok (.ret v), ht =>
    obtain ⟨rfl, rfl⟩ := ht
    have at0 : (s.heap.push (eSet w)).get? s.heap.objs.size = some (eSet w) := Heap.get?_push_size _ rfl
    have ty0 : Shared.TypeIs { s with heap := s.heap.push (eSet w) } (.ref s.heap.objs.size) "set" := ⟨_, at0, rfl⟩
    have i1 := F.called_set.init.lookup
    have i2 := F.called_set.init.bind (.ref s.heap.objs.size)
    repeat any_goals first | assumption | wp_step
    have filled : codeAny (model P w) A.in1 (.call (.builtin "set.__init__") ⟨[.ref s.heap.objs.size, .ref l], []⟩) (wants (fun v t => v = .none ∧ Filled w s s.heap.objs.size ns t) E) { s with heap := s.heap.push (eSet w) } := by
      refine codeAny_call_builtin F.called_set.init.plain F.entry_set_init (check_set_init_1 ty0 ?_)
      obtain ⟨⟨oc, od, odt, osl⟩, lo, hoc, nl, hodt⟩ := isl
      cases hoc
      cases hodt
      have lo1 := Heap.get?_push_of_some (eSet w) lo
      have isl1 : (s.heap.push (eSet w)).IsList l items := ⟨_, lo1, rfl, nl, rfl⟩
      have b1 := F.sub_list_set
      have b2 := F.sub_list_frozenset
      have b3 : (Value.type "list" == Value.type "dict") = false := by decide
      unfold Builtin.«set.__init__» noKeywords Builtin.Frozenset.updateFrom
      generalize eIt : pyIter = itf
      wp_walk
      subst eIt
      apply wpAny_pyIter_list isl1
      apply wpAny_bind; apply wpAny_runValue
      have low : l < s.heap.objs.size := Heap.lt_size lo
      have next : (s.heap.push (eSet w)).objs.size = s.heap.objs.size + 1 := Heap.size_push ..
      have apart : l ≠ (s.heap.push (eSet w)).objs.size := next ▸ Nat.ne_of_lt (Nat.lt_succ_of_lt low)
      have mine : s.heap.objs.size ∉ [(s.heap.push (eSet w)).objs.size, l] := by
        rw [next]
        intro m
        rcases List.mem_cons.mp m with m | m
        · exact Nat.ne_of_lt (Nat.lt_succ_self _) m
        · exact Nat.ne_of_gt low (List.mem_singleton.mp m)
      have vals : ∀ i v, items[i]? = some v → ∃ k t, ns[i]? = some k ∧ v = Value.int k t := fun i v iv => by
        have lt : i < ns.length := by rw [← size]; exact (Array.getElem?_eq_some_iff.mp iv).1
        obtain ⟨t, e⟩ := IntsAre.int_at ints0 i v (by rw [Array.getElem?_toList]; exact iv)
        rw [List.getD_eq_getElem?_getD, List.getElem?_eq_getElem lt] at e
        exact ⟨_, t, List.getElem?_eq_getElem lt, e⟩
      have walk := (Walks.list (prog := P) (w := w) (A := A.in1.in1.in1) (by simp [quiet]) (s.heap.push (eSet w)).objs.size l apart items).toS
      refine set_update_ints walk s.heap.objs.size mine ns size few vals (items.size - 0) 0 _ rfl (Nat.zero_le _) ⟨⟨_, Heap.get?_push_size _ rfl, rfl, rfl⟩, isl1.push _⟩ ⟨0, Nat.le_refl 0, setR_first (Heap.get?_push_of_some _ at0)⟩ fun t c hm hc hS => ?_
      obtain ⟨h', g', d', k', o'⟩ := t
      cases (show g' = s.gens from hm.gens)
      cases (show d' = s.drawn from hm.drawn)
      cases (show o' = s.os from hm.os)
      show wpAny _ _ _ _ _ _
      refine wpAny_pure ?_
      show wpAny _ _ (ret Value.none) _ _ _
      refine wpAny_pure ⟨rfl, h', k', c, rfl, hS, size ▸ hc, fun b o e => ?_⟩
      have lt := Heap.lt_size e
      refine hm.heap b o (fun m => ?_) (Heap.get?_push_of_some _ (Heap.get?_push_of_some _ e))
      rcases List.mem_cons.mp m with m | m
      · exact Nat.ne_of_lt lt m
      · exact Nat.ne_of_lt (Nat.lt_succ_of_lt lt) ((List.mem_singleton.mp m).trans next)
    refine codeAny_mono filled fun r2 t2 ht2 => ?_
    match r2, ht2 with
    | .error _, ht2 => exact ht2
    | .ok (.ret v2), ht2 =>
      obtain ⟨rfl, f⟩ := ht2
      repeat any_goals first | assumption | wp_step
      exact q _ f
end
section
variable {X : Cx}
/-- the members of a set, each once -/
def Once (ns : List Int) (n : Nat) : Prop := ∃ ks : List Int, ks.Nodup ∧ (∀ k, k ∈ ks ↔ k ∈ ns) ∧ ks.length = n
def rSetL (w : World) (K : PySem.W.Frag) : List V → Hp → VK → Prop := fun xs H Q => ∃ (a : Addr) (ns : List Int), xs = [.ref a] ∧ SqL K H a (ns.map V.int) ∧ ns.length ≤ 4000 ∧
  ∀ (p : Addr) (n : Nat), H p = none → Once ns n → Q (.ref p) (upd H p (SetO w p (fun j => decide (j ∈ ns)) n))
theorem cr_setL (hc : X.calm = true) : CallR X (.type "set") (rSetL X.w X.K) := by
  intro pins s σ H xs us Q I r h
  obtain ⟨a, ns, rfl, hS, hl, q⟩ := h
  obtain ⟨u, rfl, rx⟩ := vals1 r
  cases (show u = Value.ref a from rx)
  obtain ⟨its, rv, pl, hz⟩ := I.list hS
  have hi : IntsAre its.toArray.toList ns := by
    rw [List.toList_toArray]
    exact ints_vals rv
  refine set_of_list (I.ok.hd hc) pl.isList hi (by show ns.length + 1 < 4096; omega) fun t f => ?_
  obtain ⟨h', tk, c, rfl, R, hc', kp⟩ := f
  have hf : H s.heap.objs.size = none := I.hok.fresh (Nat.le_refl _)
  have once : Once ns c := by
    obtain ⟨o, es, ep, t, _, _, _, _, nd, hm, _, _, hn, _⟩ := R
    refine ⟨es.toList.map keyOf, nd, fun k => ?_, by rw [List.length_map, Array.length_toList]; exact hn⟩
    rw [← hm k]
    exact decide_eq_true_iff
  exact ⟨.ref s.heap.objs.size, _, I.laid (t' := tk) kp (Nat.le_refl _) (setO_new R), rfl, q _ _ hf once⟩
end
end Vf

set_option Elab.async false
set_option linter.all false
set_option maxRecDepth 100000
namespace Vf
open PySem PySem.Spec PyProof.Rows L2
/-! ### sites -/
section
variable {X : Cx}
/-- a list of anything == [] -/
def rEqNil (K : PySem.W.Frag) : R2 := fun x y H Q => ∃ (a b : Addr) (xs : List V), x = .ref a ∧ y = .ref b ∧ SqL K H a xs ∧ SqL K H b [] ∧ Q (.bl (decide (xs.length = 0))) H
theorem op_eqNil (hu : X.A.units < cLine) : OpR X (compareOp .Eq) (rEqNil X.K) := by
  intro pins s σ H x y v u Q I rx ry h
  obtain ⟨a, b, xs, rfl, rfl, ha, hb, q⟩ := h
  cases rx
  cases ry
  obtain ⟨its, rv, pl, hz⟩ := I.list ha
  obtain ⟨its2, rv2, pl2, hz2⟩ := I.list hb
  have e2 : its2.length = 0 := rv2.length.symm
  have e1 : its.length = xs.length := rv.length.symm
  by_cases c : xs.length = 0
  · refine PySem.SeqAt.eq_listAt (e := fun _ => true) pl.isList pl2.isList (by rw [List.size_toArray, List.size_toArray, e1, e2, c]) hu (fun j h1 h2 => ?_) ?_
    · rw [List.size_toArray, e1, c] at h1
      exact absurd h1 (Nat.not_lt_zero _)
    · rw [List.size_toArray, e1, c]
      rw [decide_eq_true c] at q
      exact ⟨.bl true, H, I, rfl, q⟩
  · refine PySem.SeqAt.eq_list_lengthsAt pl.isList pl2.isList ?_ hu ?_
    · rw [List.size_toArray, List.size_toArray, e1, e2]
      exact bne_iff_ne.mpr c
    · rw [decide_eq_false c] at q
      exact ⟨.bl false, H, I, rfl, q⟩
end
theorem once_le {ns : List Int} {n m : Nat} (h : Once ns n) (b : ∀ k ∈ ns, 0 ≤ k ∧ k < (m : Int)) : n ≤ m := by
  obtain ⟨ks, nd, hm, rfl⟩ := h
  have key : ∀ (m : Nat) (ks : List Int), ks.Nodup → (∀ k ∈ ks, 0 ≤ k ∧ k < (m : Int)) → ks.length ≤ m := by
    intro m
    induction m with
    | zero =>
      intro ks _ hb
      cases ks with
      | nil => exact Nat.le_refl 0
      | cons k r =>
        have := hb k List.mem_cons_self
        omega
    | succ m ih =>
      intro ks nd hb
      have h1 := ih (ks.erase (m : Int)) (nd.erase _) (fun k hk => by
        have h2 := hb k (List.mem_of_mem_erase hk)
        have h3 : k ≠ (m : Int) := fun e => by
          rw [e] at hk
          exact (List.Nodup.mem_erase_iff nd).mp hk |>.1 rfl
        omega)
      rw [List.length_erase] at h1
      split at h1 <;> omega
  exact key m ks nd fun k hk => b k ((hm k).mp hk)
theorem strict_eq : ∀ {xs ys : List Int}, xs.Pairwise (· < ·) → ys.Pairwise (· < ·) → (∀ k, k ∈ xs ↔ k ∈ ys) → xs = ys
  | [], [], _, _, _ => rfl
  | [], y :: ys, _, _, h => absurd ((h y).mpr List.mem_cons_self) (fun z => nomatch z)
  | x :: xs, [], _, _, h => absurd ((h x).mp List.mem_cons_self) (fun z => nomatch z)
  | x :: xs, y :: ys, hx, hy, h => by
    obtain ⟨x1, x2⟩ := List.pairwise_cons.mp hx
    obtain ⟨y1, y2⟩ := List.pairwise_cons.mp hy
    have e : x = y := by
      rcases List.mem_cons.mp ((h x).mp List.mem_cons_self) with e | e
      · exact e
      rcases List.mem_cons.mp ((h y).mpr List.mem_cons_self) with e2 | e2
      · exact e2.symm
      have a := x1 _ e2
      have b := y1 _ e
      omega
    subst e
    have t : xs = ys := strict_eq x2 y2 fun k => by
      have hk := h k
      rw [List.mem_cons, List.mem_cons] at hk
      constructor
      · intro m
        rcases hk.mp (.inr m) with e | e
        · have := x1 k m
          omega
        · exact e
      · intro m
        rcases hk.mpr (.inr m) with e | e
        · have := y1 k m
          omega
        · exact e
    rw [t]
theorem sorted_iff {xs ys : List Int} (hy : ys.Pairwise (· < ·)) (h : ∀ k, k ∈ ys ↔ k ∈ xs) : xs = ys ↔ xs.Pairwise (· < ·) :=
  ⟨fun e => by rw [e]; exact hy, fun hx => strict_eq hx hy fun k => (h k).symm⟩
/-- the links of page p among m pages -/
def linkB (p : Int) (m : Int) (xs : List V) : Bool := pgsB m xs && (decide ((nums xs).Pairwise (· < ·)) && !decide (p ∈ nums xs))
/-- a value to be judged as a site -/
def Ok2 (H : Hp) (x : V) : Prop := Kn H x ∧ ∀ a xs, x = .ref a → H a = some (.lst xs) → xs.length ≤ 4000 ∧ ∀ y ∈ xs, OkV H y
theorem ok2_same {H H' : Hp} (s : Same H H') {x : V} (h : Ok2 H x) : Ok2 H' x := by
  refine ⟨h.1.same s, fun a xs ex e => ?_⟩
  subst ex
  have h1 := h.1
  have ea : H a = some (.lst xs) := by
    rcases h1 with ⟨ys, ey⟩ | ⟨ys, ey⟩ | ⟨ys, ey⟩
    · have := s _ _ ey
      rw [e] at this
      cases this
      exact ey
    · have := s _ _ ey
      rw [e] at this
      cases this
    · have := s _ _ ey
      rw [e] at this
      cases this
  obtain ⟨h2, h3⟩ := h.2 a xs rfl ea
  exact ⟨h2, fun y hy => okv_same s (h3 y hy)⟩
def rowB (H : Hp) (xs : List V) (j : Nat) : Bool := match xs[j]? with
  | some y => itemsB (linkB (j : Int) (xs.length : Int)) H y
  | none => false
def siteL (H : Hp) (xs : List V) : Bool := decide (1 ≤ xs.length) && (decide (xs.length ≤ 12) && (List.range xs.length).all (rowB H xs))
def siteB (H : Hp) (x : V) : Bool := itemsB (siteL H) H x
/-- a for statement over enumerate(a list) -/
theorem for_enum {K : PySem.W.Frag} {a : Addr} {xs : List V} {g : TG} {tb : TS} {D : Ends} {σ : L2.St} {H : Hp} (Pv : Nat → L2.St → Hp → Prop) (h0 : Pv 0 σ H)
    (hl : ∀ i σ H, i ≤ xs.length → Pv i σ H → SqL K H a xs)
    (hs : ∀ i x σ H T, xs[i]? = some x → Pv i σ H → H T = none → g (.ref T) σ (upd H T (.tup [.int (i : Nat), x])) fun σ2 H2 => tb { D with nx := Pv (i + 1), ct := Pv (i + 1), bk := D.nx } σ2 H2)
    (hd : ∀ σ H, Pv xs.length σ H → D.nx σ H) :
    ∃ W : Nat → Nat → L2.St → Hp → Prop, (∃ m, W 0 m σ H) ∧ ∀ i m σ H, W i m σ H →
      ((Ite K a).stop i H ∧ D.nx σ H) ∨ ((Ite K a).go i H ∧ ∃ Nx : L2.St → Hp → Prop, (∀ σ' H', Nx σ' H' → ∃ m', m' < m ∧ W (i + 1) m' σ' H') ∧
        ∀ y H', (Ite K a).yld i H y H' → g y σ H' fun σ2 H2 => tb { D with nx := Nx, ct := Nx, bk := D.nx } σ2 H2) := by
  refine ⟨fun i m σ H => m = xs.length - i ∧ i ≤ xs.length ∧ Pv i σ H, ⟨xs.length, rfl, Nat.zero_le _, h0⟩, fun i m σ H hW => ?_⟩
  obtain ⟨rfl, hi, p⟩ := hW
  have q := hl i σ H hi p
  by_cases lt : i < xs.length
  · refine .inr ⟨⟨xs, xs[i], q, List.getElem?_eq_getElem lt⟩, Pv (i + 1), fun σ' H' p' => ⟨xs.length - (i + 1), by omega, rfl, lt, p'⟩, fun v H' y => ?_⟩
    obtain ⟨T, x, rfl, hT, rfl, f⟩ := y
    exact hs i x σ H T (f xs q) p hT
  · have e : i = xs.length := by omega
    subst e
    exact .inl ⟨⟨xs, q, Nat.le_refl _⟩, hd σ H p⟩
theorem siteB_same {H H' : Hp} (s : Same H H') {x : V} (h : Ok2 H x) : siteB H' x = siteB H x := by
  unfold siteB
  rw [itemsB_same s h.1]
  by_cases hL : isLB H x = true
  · obtain ⟨a, xs, rfl, ea⟩ := isLB_of hL
    rw [itemsB_lst ea, itemsB_lst ea]
    obtain ⟨_, hy⟩ := h.2 a xs rfl ea
    unfold siteL
    have e : (List.range xs.length).all (rowB H' xs) = (List.range xs.length).all (rowB H xs) := by
      rw [Bool.eq_iff_iff, List.all_eq_true, List.all_eq_true]
      have k : ∀ j, rowB H' xs j = rowB H xs j := fun j => by
        unfold rowB
        cases g : xs[j]? with
        | none => rfl
        | some y => exact itemsB_same s (hy y (List.mem_of_getElem? g)).1
      constructor <;> intro w j hj
      · rw [← k j]
        exact w j hj
      · rw [k j]
        exact w j hj
    rw [e]
  · rw [itemsB_no hL, itemsB_no hL]
theorem link_of {p m : Int} {zs : List Int} (h1 : ∀ z ∈ zs, 0 ≤ z ∧ z < m ∧ z ≠ p) (h2 : zs.Pairwise (· < ·)) : linkB p m (zs.map V.int) = true := by
  unfold linkB
  rw [nums_map, decide_eq_true h2, decide_eq_false (fun w => (h1 p w).2.2 rfl)]
  have e : pgsB m (zs.map V.int) = true := List.all_eq_true.mpr fun x hx => by
    obtain ⟨z, hz, rfl⟩ := List.mem_map.mp hx
    have := h1 z hz
    show (decide (0 ≤ z) && decide (z ≤ m - 1)) = true
    rw [decide_eq_true this.1, decide_eq_true (by omega)]
    rfl
  rw [e]
  rfl
theorem link_at {p m : Int} {ys : List V} {zs : List Int} {y : V} {j : Nat} (h : linkB p m ys = true) (hj : ys[j]? = some y) (ht : ys.take j = zs.map V.int) :
    ∃ z, y = .int z ∧ 0 ≤ z ∧ z < m ∧ z ≠ p ∧ ∀ z' ∈ zs, z' < z := by
  unfold linkB at h
  rw [Bool.and_eq_true, Bool.and_eq_true] at h
  obtain ⟨h1, h2, h3⟩ := h
  have ex := nums_of (show ys.all (inRg 0 (m - 1)) = true from h1)
  have h2 := of_decide_eq_true h2
  have h3 : p ∉ nums ys := fun w => by rw [decide_eq_true w] at h3; cases h3
  rw [← ex] at hj ht h1
  generalize nums ys = ns at hj ht h1 h2 h3
  obtain ⟨z, hz, rfl⟩ := at_nums hj
  have hm := List.mem_of_getElem? hz
  have h4 : (decide (0 ≤ z) && decide (z ≤ m - 1)) = true := List.all_eq_true.mp h1 (.int z) (List.mem_map.mpr ⟨z, hm, rfl⟩)
  rw [Bool.and_eq_true] at h4
  have h5 := of_decide_eq_true h4.1
  have h6 := of_decide_eq_true h4.2
  have et : zs = ns.take j := by
    rw [← List.map_take] at ht
    have := congrArg nums ht
    rw [nums_map, nums_map] at this
    exact this.symm
  refine ⟨z, rfl, h5, by omega, fun e => h3 (e ▸ hm), fun z' hz' => ?_⟩
  have h7 : (ns.take (j + 1)).Pairwise (· < ·) := h2.sublist (List.take_sublist _ _)
  rw [List.take_add_one, hz] at h7
  rw [et] at hz'
  exact (List.pairwise_append.mp h7).2.2 z' hz' z (List.mem_singleton.mpr rfl)
/-- the links of page j in a site of n pages -/
def LinksOf (n j : Nat) (t : List Int) : Prop := (∀ z ∈ t, 0 ≤ z ∧ z < (n : Int) ∧ z ≠ (j : Int)) ∧ t.Pairwise (· < ·)
theorem Rows.mono {H H' : Hp} : ∀ {as : List Addr} {ts : List (List Int)}, Rows H as ts → (∀ a ∈ as, ∀ o, H a = some o → H' a = some o) → Rows H' as ts
  | _, _, .nil, _ => .nil
  | _, _, .cons h r, f => .cons (f _ List.mem_cons_self _ h) (Rows.mono r fun a ha => f a (List.mem_cons_of_mem _ ha))
section
variable {X : Cx}
/-- list + list, also of those that stand apart -/
def rCatL (K : PySem.W.Frag) : R2 := fun x y H Q => ∃ l b xs zs, x = .ref l ∧ y = .ref b ∧ SqL K H l xs ∧ SqL K H b zs ∧ xs.length + zs.length ≤ sizeLine ∧ ∀ p, H p = none → Q (.ref p) (upd H p (.lst (xs ++ zs)))
theorem op_catL : OpR X (binaryOp .Add) (rCatL X.K) := by
  intro pins s σ H x y v u Q I rx ry h
  obtain ⟨l, b, xs, zs, rfl, rfl, hl, hb, size, q⟩ := h
  cases rx
  cases ry
  obtain ⟨its, rv, ⟨⟨c1, d1, t1, k1⟩, n1, o1, w1, _, z1⟩, _⟩ := I.list hl
  obtain ⟨its2, rv2, ⟨⟨c2, d2, t2, k2⟩, n2, o2, w2, _, z2⟩, _⟩ := I.list hb
  cases w1
  cases w2
  cases z1
  cases z2
  have l1 := rv.length
  have l2 := rv2.length
  have fits : its.toArray.size + its2.toArray.size ≤ sizeLine := by
    rw [List.size_toArray, List.size_toArray]
    omega
  have run := PyProof.Rows.list_addW l b its.toArray its2.toArray n1 n2 d1 d2 k1 k2 fits
  refine PySem.concat_meets ⟨_, o1, rfl⟩ ⟨_, o2, rfl⟩ PySem.noFill_list_add PySem.seq_list_add PySem.F.slot_list_add PySem.F.entry_list_add (PySem.F.args_list_add_2 _ _) run ⟨o1, o2, ?_⟩
  rw [show its.toArray ++ its2.toArray = (its ++ its2).toArray by simp]
  refine ⟨.ref s.heap.objs.size, _, I.lnew (t' := s.toks) (rv.append rv2) (by rw [List.length_append]; omega), rfl, q _ I.fresh⟩
end
end Vf

set_option Elab.async false
set_option linter.all false
set_option maxRecDepth 100000
namespace Vf
open PySem PySem.Spec PyProof.Rows L2
/-! ### values that are shown and judged as sites: items of rows, rows, whole values -/
structure Gi (K : PySem.W.Frag) (H : Hp) (x : V) : Prop where
  kn : Kn H x
  dp : ∃ d, Dp K H x d ∧ Sh 2 20 d
structure Gr (K : PySem.W.Frag) (H : Hp) (x : V) : Prop where
  ok : OkV H x
  d0 : ∃ d, D0 K H x d
def Js (K : PySem.W.Frag) (H : Hp) (x : V) : Prop := Ok2 H x ∧ ∃ t, Shw K H x t
theorem gr_paired {K : PySem.W.Frag} {H : Hp} : ∀ {xs : List V}, (∀ x ∈ xs, Gr K H x) → ∃ ds, Paired (D0 K H) xs ds
  | [], _ => ⟨[], .nil⟩
  | x :: xs, h => by
    obtain ⟨d, hd⟩ := (h x List.mem_cons_self).d0
    obtain ⟨ds, hp⟩ := gr_paired fun y hy => h y (List.mem_cons_of_mem _ hy)
    exact ⟨d :: ds, .cons hd hp⟩
theorem gi_all {K : PySem.W.Frag} {H : Hp} : ∀ {xs : List V}, (∀ x ∈ xs, Gi K H x) → ∃ ds, DpAll K H xs ds ∧ ds.length = xs.length ∧ ∀ d ∈ ds, Sh 2 20 d
  | [], _ => ⟨[], .nil, rfl, fun _ h => nomatch h⟩
  | x :: xs, h => by
    obtain ⟨d, hd, sh⟩ := (h x List.mem_cons_self).dp
    obtain ⟨ds, hp, hl, hs⟩ := gi_all fun y hy => h y (List.mem_cons_of_mem _ hy)
    exact ⟨d :: ds, .cons hd hp, by rw [List.length_cons, List.length_cons, hl], fun e he => by
      rcases List.mem_cons.mp he with rfl | he
      · exact sh
      · exact hs e he⟩
theorem gi_int {K : PySem.W.Frag} {H : Hp} {z : Int} (h : z.natAbs < 10 ^ 38) : Gi K H (.int z) := ⟨trivial, _, .int z, (sh_big h).mono (by decide) (by decide)⟩
theorem gi_bl {K : PySem.W.Frag} {H : Hp} (b : Bool) : Gi K H (.bl b) := by
  refine ⟨trivial, _, .bl b, ?_⟩
  cases b <;> exact ⟨by simp only [PyData.showable], by simp only [PyData.hasDict], by simp only [PyData.canLay0], by simp only [PyData.leavesShort], by simp only [PyData.depth]; decide, by simp only [PyData.bulk]; decide⟩
theorem gi_non {K : PySem.W.Frag} {H : Hp} : Gi K H .non :=
  ⟨trivial, _, .non, by simp only [PyData.showable], by simp only [PyData.hasDict], by simp only [PyData.canLay0], by simp only [PyData.leavesShort], by simp only [PyData.depth]; decide, by simp only [PyData.bulk]; decide⟩
theorem gi_str {K : PySem.W.Frag} {H : Hp} {x : PySem.Str} (h : PyData.canLay0 (.str x) = true) (h2 : PyData.leavesShort 40 (.str x) = true) (h3 : x.cps.size ≤ 15) : Gi K H (.str x) :=
  ⟨trivial, _, .str x, by simp only [PyData.showable], by simp only [PyData.hasDict], h, h2, by simp only [PyData.depth]; decide, by simp only [PyData.bulk]; omega⟩
theorem gi_nums {K : PySem.W.Frag} {H : Hp} {a : Addr} {l : List Int} (e : H a = some (.lst (l.map V.int))) (h : ∀ z ∈ l, 0 ≤ z ∧ z ≤ 1000) (hl : l.length ≤ 20) : Gi K H (.ref a) :=
  ⟨.inl ⟨_, e⟩, nD l, dp_nD (.inl (.inl e)), (sh_nD h).mono (by decide) hl⟩
theorem gi_tup0 {K : PySem.W.Frag} {H : Hp} {a : Addr} (e : H a = some (.tup [.int 0])) : Gi K H (.ref a) := by
  refine ⟨.inr (.inl ⟨_, e⟩), .tuple [.int 0], .tup (.inl (.inl e)) (.cons (.int 0) .nil), ?_⟩
  exact (sh_tuple (k := 0) (n := 0) (ds := [.int 0]) fun d hd => by rw [List.mem_singleton.mp hd]; exact sh_int (by decide)).mono (by decide) (by decide)
theorem okv_flat {H : Hp} {x : V} (h : Kn H x) (hn : ∀ a xs, x = .ref a → H a ≠ some (.lst xs)) : OkV H x := ⟨h, fun a xs ex e => absurd e (hn a xs ex)⟩
theorem okv_list {H : Hp} {a : Addr} {xs : List V} (e : H a = some (.lst xs)) (hl : xs.length ≤ 4000) (h : ∀ y ∈ xs, Kn H y) : OkV H (.ref a) := by
  refine ⟨.inl ⟨_, e⟩, fun b ys eb ey => ?_⟩
  cases eb
  rw [e] at ey
  cases ey
  exact ⟨hl, h⟩
theorem gr_items {K : PySem.W.Frag} {H : Hp} {a : Addr} {xs : List V} (e : H a = some (.lst xs)) (hl : xs.length ≤ 23) (h : ∀ x ∈ xs, Gi K H x) : Gr K H (.ref a) := by
  obtain ⟨ds, hp, he, hs⟩ := gi_all h
  refine ⟨okv_list e (by omega) fun y hy => (h y hy).kn, .list ds, .inl ⟨.lst (.inl (.inl e)) hp, (sh_list hs).mono (by decide) ?_⟩⟩
  rw [he]
  omega
theorem gr_nums {K : PySem.W.Frag} {H : Hp} {a : Addr} {l : List Int} (e : H a = some (.lst (l.map V.int))) (h : ∀ z ∈ l, 0 ≤ z ∧ z ≤ 1000) (hl : l.length ≤ 500) : Gr K H (.ref a) :=
  ⟨okv_nums e (by omega), nD l, .inl ⟨dp_nD (.inl (.inl e)), (sh_nD h).mono (by decide) hl⟩⟩
theorem gr_tup {K : PySem.W.Frag} {H : Hp} {a : Addr} {l : List Int} (e : H a = some (.tup (l.map V.int))) (h : ∀ z ∈ l, 0 ≤ z ∧ z ≤ 1000) (hl : l.length ≤ 500) : Gr K H (.ref a) := by
  refine ⟨okv_flat (.inr (.inl ⟨_, e⟩)) (fun b xs eb ex => by cases eb; rw [e] at ex; cases ex), .tuple (l.map .int), .inl ⟨.tup (.inl (.inl e)) (dpa_nums l), ?_⟩⟩
  have h1 := sh_tuple (k := 0) (n := 0) (ds := l.map PyData.int) fun d hd => by
    obtain ⟨z, hz, rfl⟩ := List.mem_map.mp hd
    have := h z hz
    exact sh_int (by omega)
  rw [List.length_map] at h1
  exact h1.mono (by decide) (by omega)
theorem gr_gi {K : PySem.W.Frag} {H : Hp} {x : V} (h : Gi K H x) (hn : ∀ a xs, x = .ref a → H a ≠ some (.lst xs)) : Gr K H x := by
  obtain ⟨d, hd, sh⟩ := h.dp
  exact ⟨okv_flat h.kn hn, d, .inl ⟨hd, sh.mono (by decide) (by decide)⟩⟩
theorem gr_dict {K : PySem.W.Frag} {H : Hp} {a : Addr} (e : H a = some (.dK [])) : Gr K H (.ref a) :=
  ⟨okv_flat (.inr (.inr ⟨_, e⟩)) (fun b xs eb ex => by cases eb; rw [e] at ex; cases ex), _, .inr ⟨a, rfl, e, rfl⟩⟩
/-- a list of rows of numbers, as a row -/
theorem gr_rows {K : PySem.W.Frag} {H : Hp} {a : Addr} {as : List Addr} {ts : List (List Int)} (e : H a = some (.lst (as.map V.ref))) (R : Rows H as ts) (hl : as.length ≤ 20) (ht : ∀ t ∈ ts, t.length ≤ 20 ∧ ∀ z ∈ t, 0 ≤ z ∧ z ≤ 1000) : Gr K H (.ref a) := by
  refine ⟨okv_list e (by rw [List.length_map]; omega) fun y hy => ?_, nnD ts, .inl ⟨dp_nnD e R, (sh_nnD ht).mono (by decide) ?_⟩⟩
  · obtain ⟨r, hr, rfl⟩ := List.mem_map.mp hy
    obtain ⟨t, _, et⟩ := R.mem hr
    exact .inl ⟨_, et⟩
  · have := R.length
    have h2 : ts.length ≤ 20 := by omega
    have h3 : ts.length * (20 + 1) ≤ 20 * (20 + 1) := Nat.mul_le_mul_right _ h2
    omega
theorem js_list {K : PySem.W.Frag} {H : Hp} {a : Addr} {xs : List V} (e : H a = some (.lst xs)) (hl : xs.length ≤ 700) (h : ∀ x ∈ xs, Gr K H x) : Js K H (.ref a) := by
  obtain ⟨ds, hp⟩ := gr_paired h
  refine ⟨⟨.inl ⟨_, e⟩, fun b ys eb ey => ?_⟩, _, .inr (.inr ⟨a, xs, ds, rfl, e, hp, hl, rfl⟩)⟩
  cases eb
  rw [e] at ey
  cases ey
  exact ⟨by omega, fun y hy => (h y hy).ok⟩
theorem js_gr {K : PySem.W.Frag} {H : Hp} {x : V} (h : Gr K H x) (hn : ∀ a xs, x = .ref a → H a ≠ some (.lst xs)) : Js K H x := by
  refine ⟨⟨h.ok.1, fun a xs ex e => absurd e (hn a xs ex)⟩, ?_⟩
  obtain ⟨d, hd⟩ := h.d0
  rcases hd with ⟨h1, z⟩ | ⟨a, rfl, e, rfl⟩
  · exact ⟨_, .inl ⟨d, h1, z.mono (by decide) (by decide), rfl⟩⟩
  · exact ⟨_, .inr (.inl ⟨a, rfl, e, rfl⟩)⟩
theorem js_tupRows {K : PySem.W.Frag} {H : Hp} {a : Addr} {as : List Addr} {ts : List (List Int)} (e : H a = some (.tup (as.map V.ref))) (R : Rows H as ts) (hl : as.length ≤ 20) (ht : ∀ t ∈ ts, t.length ≤ 20 ∧ ∀ z ∈ t, 0 ≤ z ∧ z ≤ 1000) : Js K H (.ref a) := by
  refine ⟨⟨.inr (.inl ⟨_, e⟩), fun b ys eb ey => by cases eb; rw [e] at ey; cases ey⟩, _, .inl ⟨.tuple (ts.map nD), .tup (.inl (.inl e)) (dpa_rows R), ?_, rfl⟩⟩
  have h1 := sh_tuple (k := 1) (n := 20) (ds := ts.map nD) fun d hd => by
    obtain ⟨t, hm, rfl⟩ := List.mem_map.mp hd
    exact (sh_nD (ht t hm).2).mono (by decide) (ht t hm).1
  rw [List.length_map] at h1
  have h2 := R.length
  have h3 : ts.length * (20 + 1) ≤ 20 * (20 + 1) := Nat.mul_le_mul_right _ (by omega)
  exact h1.mono (by decide) (by omega)
theorem links_len {n j : Nat} {t : List Int} (h : LinksOf n j t) : t.length ≤ n := by
  refine once_le (ns := t) ⟨t, ?_, fun k => Iff.rfl, rfl⟩ fun k hk => ⟨(h.1 k hk).1, (h.1 k hk).2.1⟩
  exact h.2.imp fun hlt e => by omega
theorem ne_of_pl {H : Hp} {p c : Addr} {n : Nat} (P : Pl H p n) (hc : H c = none) : c ≠ p := fun e => by
  obtain ⟨o, eo⟩ := P.at
  rw [e, eo] at hc
  cases hc
/-- what is known while the drawer at p goes on: the site at L, items, rows and values -/
structure Wb (K : PySem.W.Frag) (p L : Addr) (as : List Addr) (ts : List (List Int)) (n : Nat) (is gs js : List V) (H : Hp) : Prop where
  pl : Pl H p n
  net : H L = some (.lst (as.map V.ref))
  rows : Rows H as ts
  nLp : L ≠ p
  nap : ∀ r ∈ as, r ≠ p
  hi : ∀ x ∈ is, ∀ G, But p H G → Gi K G x
  hg : ∀ x ∈ gs, ∀ G, But p H G → Gr K G x
  hj : ∀ x ∈ js, ∀ G, But p H G → Js K G x
section
variable {K : PySem.W.Frag} {p L : Addr} {as : List Addr} {ts : List (List Int)} {n : Nat} {is gs js : List V} {H H' : Hp}
theorem Wb.step {n' : Nat} (h : Wb K p L as ts n is gs js H) (b : But p H H') (P : Pl H' p n') : Wb K p L as ts n' is gs js H' where
  pl := P
  net := b _ _ h.nLp h.net
  rows := h.rows.mono fun r hr o e => b r o (h.nap r hr) e
  nLp := h.nLp
  nap := h.nap
  hi := fun x hx G bg => h.hi x hx G (b.trans bg)
  hg := fun x hx G bg => h.hg x hx G (b.trans bg)
  hj := fun x hx G bg => h.hj x hx G (b.trans bg)
theorem Wb.new {c : Addr} {o : HO} (h : Wb K p L as ts n is gs js H) (hc : H c = none) : Wb K p L as ts n is gs js (upd H c o) :=
  h.step (.of_same (same_new hc)) (h.pl.same (same_new hc))
theorem more {α : Type} {P : α → Prop} {x : α} {xs : List α} (h : ∀ y ∈ xs, P y) (g : P x) : ∀ y ∈ x :: xs, P y := fun y hy => by
  rcases List.mem_cons.mp hy with rfl | hy
  · exact g
  · exact h y hy
theorem Wb.addI {x : V} (h : Wb K p L as ts n is gs js H) (g : ∀ G, But p H G → Gi K G x) : Wb K p L as ts n (x :: is) gs js H :=
  ⟨h.pl, h.net, h.rows, h.nLp, h.nap, more h.hi g, h.hg, h.hj⟩
theorem Wb.addG {x : V} (h : Wb K p L as ts n is gs js H) (g : ∀ G, But p H G → Gr K G x) : Wb K p L as ts n is (x :: gs) js H :=
  ⟨h.pl, h.net, h.rows, h.nLp, h.nap, h.hi, more h.hg g, h.hj⟩
theorem Wb.addJ {x : V} (h : Wb K p L as ts n is gs js H) (g : ∀ G, But p H G → Js K G x) : Wb K p L as ts n is gs (x :: js) H :=
  ⟨h.pl, h.net, h.rows, h.nLp, h.nap, h.hi, h.hg, more h.hj g⟩
theorem Wb.alloc {o : HO} {Q : V → Hp → Prop} (h : Wb K p L as ts n is gs js H) (k : ∀ c H', Wb K p L as ts n is gs js H' → c ≠ p → Same H H' → H' c = some o → Q (.ref c) H') : ∀ c, H c = none → Q (.ref c) (upd H c o) :=
  fun c hc => k c _ (h.new hc) (ne_of_pl h.pl hc) (same_new hc) upd_same
theorem Wb.row (h : Wb K p L as ts n is gs js H) (ht : ∀ t ∈ ts, t.length ≤ 12 ∧ Pgs t) {a : Addr} (ha : a ∈ as) : ∀ G, But p H G → Gr K G (.ref a) := fun G b => by
  obtain ⟨t, hm, e⟩ := h.rows.mem ha
  obtain ⟨h1, h2⟩ := ht t hm
  exact gr_nums (b _ _ (h.nap a ha) e) (fun z hz => by have := h2 z hz; omega) (by omega)
theorem Wb.rowsG (h : Wb K p L as ts n is gs js H) {G : Hp} (b : But p H G) : Rows G as ts := h.rows.mono fun r hr o e => b r o (h.nap r hr) e
end
theorem Rows.set {H : Hp} : ∀ {as : List Addr} {ts : List (List Int)} {j : Nat} {r : Addr} (t' : List Int), Rows H as ts → as.Nodup → as[j]? = some r → Rows (upd H r (.lst (t'.map V.int))) as (ts.set j t')
  | a :: as, t :: ts, 0, r, t', .cons h R, nd, e => by
    cases (Option.some.inj e)
    obtain ⟨n1, n2⟩ := List.nodup_cons.mp nd
    exact .cons upd_same (Rows.mono R fun b hb o eo => (upd_ne fun w : b = a => n1 (by rw [← w]; exact hb)).trans eo)
  | a :: as, t :: ts, j + 1, r, t', .cons h R, nd, e => by
    obtain ⟨n1, n2⟩ := List.nodup_cons.mp nd
    have hr : r ∈ as := List.mem_of_getElem? (show as[j]? = some r from e)
    exact .cons ((upd_ne fun w : a = r => n1 (by rw [w]; exact hr)).trans h) (Rows.set t' R n2 e)
theorem js_rows {K : PySem.W.Frag} {H : Hp} {a : Addr} {as : List Addr} {ts : List (List Int)} (e : H a = some (.lst (as.map V.ref))) (R : Rows H as ts) (hl : as.length ≤ 20) (ht : ∀ t ∈ ts, t.length ≤ 500 ∧ ∀ z ∈ t, 0 ≤ z ∧ z ≤ 1000) : Js K H (.ref a) :=
  js_list e (by rw [List.length_map]; omega) fun x hx => by
    obtain ⟨r, hr, rfl⟩ := List.mem_map.mp hx
    obtain ⟨t, hm, et⟩ := R.mem hr
    exact gr_nums et (ht t hm).2 (ht t hm).1
/-- rows of anything -/
def RowsV (H : Hp) : List Addr → List (List V) → Prop := Paired fun a t => H a = some (.lst t)
def siteV (vs : List (List V)) : Bool := decide (1 ≤ vs.length) && (decide (vs.length ≤ 12) && (List.range vs.length).all fun j => match vs[j]? with
  | some t => linkB (j : Int) (vs.length : Int) t
  | none => false)
theorem RowsV.at {H : Hp} : ∀ {as : List Addr} {vs : List (List V)} (j : Nat), RowsV H as vs → (as[j]? = none ∧ vs[j]? = none) ∨ ∃ a t, as[j]? = some a ∧ vs[j]? = some t ∧ H a = some (.lst t)
  | [], [], j, .nil => .inl ⟨by simp, by simp⟩
  | a :: as, t :: vs, 0, .cons h _ => .inr ⟨a, t, rfl, rfl, h⟩
  | a :: as, t :: vs, j + 1, .cons _ r => RowsV.at (H := H) (as := as) (vs := vs) j r
theorem siteB_rows {H : Hp} {a : Addr} {as : List Addr} {vs : List (List V)} (e : H a = some (.lst (as.map V.ref))) (R : RowsV H as vs) : siteB H (.ref a) = siteV vs := by
  unfold siteB
  rw [itemsB_lst e]
  unfold siteL siteV
  have hl : (as.map V.ref).length = vs.length := by rw [List.length_map]; exact Paired.length R
  rw [hl]
  have k : ∀ j, rowB H (as.map V.ref) j = (match vs[j]? with
      | some t => linkB (j : Int) (vs.length : Int) t
      | none => false) := fun j => by
    unfold rowB
    rw [hl, List.getElem?_map]
    rcases RowsV.at j R with ⟨h1, h2⟩ | ⟨b, t, h1, h2, h3⟩
    · rw [h1, h2]
      rfl
    · rw [h1, h2]
      show itemsB _ H (.ref b) = _
      rw [itemsB_lst h3]
  rw [show rowB H (as.map V.ref) = _ from funext k]
theorem rowsV_of {H : Hp} : ∀ {as : List Addr} {ts : List (List Int)}, Rows H as ts → RowsV H as (ts.map fun t => t.map V.int)
  | _, _, .nil => .nil
  | _, _, .cons h r => .cons h (rowsV_of r)
theorem first_at {t : List Int} {z : Int} (h : z ∈ t) : t[t.idxOf z]? = some z ∧ ∀ m : Nat, m < t.idxOf z → t[m]? ≠ some z := by
  obtain ⟨i1, _, i3⟩ := idx_nums h
  obtain ⟨z2, e, e2⟩ := at_nums i1
  cases e2
  refine ⟨e, fun m hm w => ?_⟩
  have h2 : (z == z) = false := i3 m (.int z) hm (by rw [List.getElem?_map, w]; rfl)
  rw [beq_self_eq_true] at h2
  cases h2
/-- a value that can be judged, and the answer -/
def Jv (H : Hp) (x : V) (b : Bool) : Prop := Ok2 H x ∧ siteB H x = b
theorem Jv.same {H H' : Hp} {x : V} {b : Bool} (s : Same H H') (h : Jv H x b) : Jv H' x b := ⟨ok2_same s h.1, (siteB_same s h.1).trans h.2⟩
theorem RowsV.mem {H : Hp} : ∀ {as : List Addr} {vs : List (List V)} {a : Addr}, RowsV H as vs → a ∈ as → ∃ t ∈ vs, H a = some (.lst t)
  | _, _, _, .nil, h => nomatch h
  | _, _, _, .cons h r, m => by
    rcases List.mem_cons.mp m with rfl | m
    · exact ⟨_, List.mem_cons_self, h⟩
    · obtain ⟨t, h1, h2⟩ := RowsV.mem r m
      exact ⟨t, List.mem_cons_of_mem _ h1, h2⟩
theorem jv_rows {H : Hp} {a : Addr} {as : List Addr} {vs : List (List V)} {b : Bool} (e : H a = some (.lst (as.map V.ref))) (R : RowsV H as vs) (hl : as.length ≤ 4000) (ht : ∀ t ∈ vs, t.length ≤ 4000 ∧ ∀ y ∈ t, Kn H y) (hb : siteV vs = b) : Jv H (.ref a) b := by
  refine ⟨⟨.inl ⟨_, e⟩, fun c ys ec ey => ?_⟩, (siteB_rows e R).trans hb⟩
  cases ec
  rw [e] at ey
  cases ey
  refine ⟨by rw [List.length_map]; exact hl, fun y hy => ?_⟩
  obtain ⟨r, hr, rfl⟩ := List.mem_map.mp hy
  obtain ⟨t, hm, et⟩ := R.mem hr
  exact okv_list et (ht t hm).1 (ht t hm).2
def rowF (i o : Nat) : List Int := ((List.range o).filter fun j => decide (j ≠ i)).map Int.ofNat
theorem rowF_succ (i o : Nat) : rowF i (o + 1) = if o = i then rowF i o else rowF i o ++ [(o : Int)] := by
  unfold rowF
  rw [List.range_succ, List.filter_append]
  by_cases e : o = i
  · rw [if_pos e]
    have : [o].filter (fun j => decide (j ≠ i)) = [] := by simp [e]
    rw [this, List.append_nil]
  · rw [if_neg e]
    have : [o].filter (fun j => decide (j ≠ i)) = [o] := by simp [e]
    rw [this, List.map_append]
    rfl
theorem rowF_len (i o : Nat) : (rowF i o).length ≤ o := by
  unfold rowF
  rw [List.length_map]
  exact Nat.le_trans (List.length_filter_le _ _) (by rw [List.length_range]; exact Nat.le_refl _)
def tsF : List (List V) := (List.range 12).map fun i => (rowF i 12).map V.int
theorem siteV_full : siteV tsF = true := by decide +kernel
theorem siteV_more : siteV (tsF ++ [[]]) = false := by decide +kernel
theorem siteV_12 : siteV (List.replicate 12 []) = true := by decide +kernel
theorem siteV_13 : siteV (List.replicate 13 []) = false := by decide +kernel
theorem siteV_a : siteV [[.int 1], [.bl true]] = false := by decide +kernel
theorem siteV_b : siteV [[], [.int 0]] = true := by decide +kernel
theorem siteV_c : siteV [[.int 0]] = false := by decide +kernel
theorem siteV_d : siteV [[.int 1], [.int 0], [.int 2]] = false := by decide +kernel
theorem siteV_n (c : Addr) : siteV [[.ref c]] = false := by
  have h : linkB 0 1 [.ref c] = false := by
    unfold linkB
    have : pgsB 1 [.ref c] = false := rfl
    rw [this, Bool.false_and]
  show (decide (1 ≤ 1) && (decide (1 ≤ 12) && (linkB 0 1 [.ref c] && true))) = false
  rw [h]
  rfl
theorem RowsV.snoc {H : Hp} {a : Addr} {t : List V} (h : H a = some (.lst t)) : ∀ {as : List Addr} {vs : List (List V)}, RowsV H as vs → RowsV H (as ++ [a]) (vs ++ [t])
  | _, _, .nil => .cons h .nil
  | _, _, .cons h' r => .cons h' (RowsV.snoc h r)
theorem RowsV.mono {H H' : Hp} : ∀ {as : List Addr} {vs : List (List V)}, RowsV H as vs → (∀ a ∈ as, ∀ o, H a = some o → H' a = some o) → RowsV H' as vs
  | _, _, .nil, _ => .nil
  | _, _, .cons h r, f => .cons (f _ List.mem_cons_self _ h) (RowsV.mono r fun a ha => f a (List.mem_cons_of_mem _ ha))
theorem rowsV_rep {H : Hp} {a : Addr} {t : List V} (h : H a = some (.lst t)) : ∀ n : Nat, RowsV H (List.replicate n a) (List.replicate n t)
  | 0 => .nil
  | n + 1 => .cons h (rowsV_rep h n)
def bD (bs : List Bool) : PyData := .list (bs.map .bool)
theorem dpa_bools {K : PySem.W.Frag} {H : Hp} : ∀ bs : List Bool, DpAll K H (bs.map V.bl) (bs.map PyData.bool)
  | [] => .nil
  | b :: bs => .cons (.bl b) (dpa_bools bs)
theorem dp_bD {K : PySem.W.Frag} {H : Hp} {a : Addr} {bs : List Bool} (h : SqL K H a (bs.map V.bl)) : Dp K H (.ref a) (bD bs) := .lst h (dpa_bools bs)
end Vf

set_option maxRecDepth 100000
set_option maxHeartbeats 4000000
namespace Vf
open PySem PySem.Spec PyProof.Rows L2
def topS (i : Nat) : Stmt := PySem.Challenge.pw_breadcrumbs_k01_sites_recognized.main.body.getD i (.Pass ⟨0, 0, 0, 0⟩)
abbrev s__law_draw : Stmt := topS 10
abbrev N__law_draw : List PySem.Str := ["_law_source_here", "_law_count", "_law_digit", "_law_mixed"]
theorem sc__law_draw : FnScope N__law_draw ["_law_source_here", "_law_count"] (defScope s__law_draw) := ⟨rfl, rfl, rfl, by decide +kernel, rfl, by decide +kernel, by decide +kernel⟩
abbrev s__law_net : Stmt := topS 11
abbrev N__law_net : List PySem.Str := ["_law_source_here", "_law_most", "_law_many", "_law_style", "_law_found", "_law_spot", "_law_row", "_law_other", "_law_picks"]
theorem sc__law_net : FnScope N__law_net ["_law_source_here", "_law_most"] (defScope s__law_net) := ⟨rfl, rfl, rfl, by decide +kernel, rfl, by decide +kernel, by decide +kernel⟩
abbrev s_is_int : Stmt := topS 1
abbrev N_is_int : List PySem.Str := ["value"]
theorem sc_is_int : FnScope N_is_int ["value"] (defScope s_is_int) := ⟨rfl, rfl, rfl, by decide +kernel, rfl, by decide +kernel, by decide +kernel⟩
abbrev s_is_between : Stmt := topS 2
abbrev N_is_between : List PySem.Str := ["value", "low", "high"]
theorem sc_is_between : FnScope N_is_between ["value", "low", "high"] (defScope s_is_between) := ⟨rfl, rfl, rfl, by decide +kernel, rfl, by decide +kernel, by decide +kernel⟩
abbrev s_are_pages : Stmt := topS 3
abbrev N_are_pages : List PySem.Str := ["value", "many", "item"]
theorem sc_are_pages : FnScope N_are_pages ["value", "many"] (defScope s_are_pages) := ⟨rfl, rfl, rfl, by decide +kernel, rfl, by decide +kernel, by decide +kernel⟩
abbrev s__are_links : Stmt := topS 7
abbrev N__are_links : List PySem.Str := ["value", "page", "many"]
theorem sc__are_links : FnScope N__are_links ["value", "page", "many"] (defScope s__are_links) := ⟨rfl, rfl, rfl, by decide +kernel, rfl, by decide +kernel, by decide +kernel⟩
abbrev s_is_site : Stmt := topS 6
abbrev N_is_site : List PySem.Str := ["value", "page", "links"]
theorem sc_is_site : FnScope N_is_site ["value"] (defScope s_is_site) := ⟨rfl, rfl, rfl, by decide +kernel, rfl, by decide +kernel, by decide +kernel⟩
abbrev s__law_is_net : Stmt := topS 12
abbrev N__law_is_net : List PySem.Str := ["_law_value", "_law_spot", "_law_row", "_law_last", "_law_other"]
theorem sc__law_is_net : FnScope N__law_is_net ["_law_value"] (defScope s__law_is_net) := ⟨rfl, rfl, rfl, by decide +kernel, rfl, by decide +kernel, by decide +kernel⟩
abbrev s__law_checked : Stmt := topS 14
abbrev N__law_checked : List PySem.Str := ["_law_value", "_law_before", "_law_result"]
theorem sc__law_checked : FnScope N__law_checked ["_law_value"] (defScope s__law_checked) := ⟨rfl, rfl, rfl, by decide +kernel, rfl, by decide +kernel, by decide +kernel⟩
abbrev s__law_bad_net : Stmt := topS 13
abbrev N__law_bad_net : List PySem.Str := ["_law_source_here", "_law_net_here", "_law_at", "_law_many", "_law_links", "_law_spot", "_law_rows", "_law_odd", "_law_some"]
theorem sc__law_bad_net : FnScope N__law_bad_net ["_law_source_here", "_law_net_here"] (defScope s__law_bad_net) := ⟨rfl, rfl, rfl, by decide +kernel, rfl, by decide +kernel, by decide +kernel⟩
abbrev s__law_holds : Stmt := topS 15
abbrev N__law_holds : List PySem.Str := ["_law_source_here", "_law_most", "_law_net_here", "_law_step", "_law_row", "_law_other", "_law_full", "_law_nested", "_law_some", "_law_spot", "_law_value"]
theorem sc__law_holds : FnScope N__law_holds ["_law_source_here", "_law_most"] (defScope s__law_holds) := ⟨rfl, rfl, rfl, by decide +kernel, rfl, by decide +kernel, by decide +kernel⟩
abbrev s__law_source : Stmt := topS 9
abbrev N__law_source : List PySem.Str := ["_law_cell", "_law_k"]
theorem sc__law_source : FnScope N__law_source ["_law_cell", "_law_k"] (defScope s__law_source) := ⟨rfl, rfl, rfl, by decide +kernel, rfl, by decide +kernel, by decide +kernel⟩
abbrev s_law : Stmt := topS 16
abbrev N_law : List PySem.Str := ["_law_script", "_law_k", "_law_cell"]
theorem sc_law : FnScope N_law ["_law_script"] (defScope s_law) := ⟨rfl, rfl, rfl, by decide +kernel, rfl, by decide +kernel, by decide +kernel⟩
structure Top (K : PySem.W.Frag) (mg : PySem.Str → Option Value) where
  a__law_draw : Addr
  d__law_draw : FuncData
  F__law_draw : Fun K "_law_draw" "_law_draw" s__law_draw a__law_draw d__law_draw
  g__law_draw : mg "_law_draw" = some (.ref a__law_draw)
  b__law_draw : Binds K d__law_draw ["_law_source_here", "_law_count"] []
  a__law_net : Addr
  d__law_net : FuncData
  F__law_net : Fun K "_law_net" "_law_net" s__law_net a__law_net d__law_net
  g__law_net : mg "_law_net" = some (.ref a__law_net)
  b__law_net : Binds K d__law_net ["_law_source_here", "_law_most"] []
  a_is_int : Addr
  d_is_int : FuncData
  F_is_int : Fun K "is_int" "is_int" s_is_int a_is_int d_is_int
  g_is_int : mg "is_int" = some (.ref a_is_int)
  b_is_int : Binds K d_is_int ["value"] []
  a_is_between : Addr
  d_is_between : FuncData
  F_is_between : Fun K "is_between" "is_between" s_is_between a_is_between d_is_between
  g_is_between : mg "is_between" = some (.ref a_is_between)
  b_is_between : Binds K d_is_between ["value", "low", "high"] []
  a_are_pages : Addr
  d_are_pages : FuncData
  F_are_pages : Fun K "are_pages" "are_pages" s_are_pages a_are_pages d_are_pages
  g_are_pages : mg "are_pages" = some (.ref a_are_pages)
  b_are_pages : Binds K d_are_pages ["value", "many"] []
  a__are_links : Addr
  d__are_links : FuncData
  F__are_links : Fun K "_are_links" "_are_links" s__are_links a__are_links d__are_links
  g__are_links : mg "_are_links" = some (.ref a__are_links)
  b__are_links : Binds K d__are_links ["value", "page", "many"] []
  a_is_site : Addr
  d_is_site : FuncData
  F_is_site : Fun K "is_site" "is_site" s_is_site a_is_site d_is_site
  g_is_site : mg "is_site" = some (.ref a_is_site)
  b_is_site : Binds K d_is_site ["value"] []
  a__law_is_net : Addr
  d__law_is_net : FuncData
  F__law_is_net : Fun K "_law_is_net" "_law_is_net" s__law_is_net a__law_is_net d__law_is_net
  g__law_is_net : mg "_law_is_net" = some (.ref a__law_is_net)
  b__law_is_net : Binds K d__law_is_net ["_law_value"] []
  a__law_checked : Addr
  d__law_checked : FuncData
  F__law_checked : Fun K "_law_checked" "_law_checked" s__law_checked a__law_checked d__law_checked
  g__law_checked : mg "_law_checked" = some (.ref a__law_checked)
  b__law_checked : Binds K d__law_checked ["_law_value"] []
  a__law_bad_net : Addr
  d__law_bad_net : FuncData
  F__law_bad_net : Fun K "_law_bad_net" "_law_bad_net" s__law_bad_net a__law_bad_net d__law_bad_net
  g__law_bad_net : mg "_law_bad_net" = some (.ref a__law_bad_net)
  b__law_bad_net : Binds K d__law_bad_net ["_law_source_here", "_law_net_here"] []
  a__law_holds : Addr
  d__law_holds : FuncData
  F__law_holds : Fun K "_law_holds" "_law_holds" s__law_holds a__law_holds d__law_holds
  g__law_holds : mg "_law_holds" = some (.ref a__law_holds)
  b__law_holds : Binds K d__law_holds ["_law_source_here", "_law_most"] []
  a__law_source : Addr
  d__law_source : FuncData
  F__law_source : Fun K "_law_source" "_law_source" s__law_source a__law_source d__law_source
  g__law_source : mg "_law_source" = some (.ref a__law_source)
  b__law_source : Binds K d__law_source ["_law_cell", "_law_k"] []
  a_law : Addr
  d_law : FuncData
  F_law : Fun K "law" "law" s_law a_law d_law
  g_law : mg "law" = some (.ref a_law)
  b_law : Binds K d_law ["_law_script"] []
  t_MOST_PAGES : Tok
  g_MOST_PAGES : mg "MOST_PAGES" = some (.int (12) t_MOST_PAGES)
  n_range : mg "range" = none
  n_int : mg "int" = none
  n_min : mg "min" = none
  n_abs : mg "abs" = none
  n_isinstance : mg "isinstance" = none
  n_bool : mg "bool" = none
  n_list : mg "list" = none
  n_all : mg "all" = none
  n_sorted : mg "sorted" = none
  n_set : mg "set" = none
  n_len : mg "len" = none
  n_enumerate : mg "enumerate" = none
  n_repr : mg "repr" = none
  n_tuple : mg "tuple" = none
  n_max : mg "max" = none
section
variable {P : Program} {w : World} {K : PySem.W.Frag} {mg : PySem.Str → Option Value} {base : Heap}
def sp__law_draw (K : PySem.W.Frag) : Sp := fun vs H Q _ => ∃ (p : Addr) (m : Int) (n : Nat), vs = [.ref p, .int m] ∧ Pl H p n ∧ n ≤ 1000000 ∧ 1 ≤ m ∧ m ≤ 1000000 ∧
  ∀ H' (r : Int), But p H H' → Pl H' p (n + 1) → 0 ≤ r → r < m → Q (.int r) H'
theorem ok__law_draw (T : Top K mg) :
    FnOk P w K mg base CX0 1 T.a__law_draw T.d__law_draw ["_law_source_here", "_law_count"] (sp__law_draw K) := by
  refine T.F__law_draw.ok sc__law_draw (fun vs H Q E h => ?_) (fun cdv A outer s H vs Q E hr h => ?_)
  · obtain ⟨p, m, n, rfl, _⟩ := h
    rfl
  · obtain ⟨p, m, n, rfl, hP, hn, hm, hm2, q⟩ := h
    have nd := sc__law_draw.nd
    have hu := hu_of hr
    have hU := units_of hr
    have hu64 := u64_of hr
    refine ⟨_, (pss_cons (ps_if (pt_cmpR op_gt (pe_ix ix_list (pv 0) pe_int (fun _ _ => rfl)) pe_int (nomark _)) (pss_cons (ps_set (i := 2) nd rfl (Or.inl rfl) (pe_op op_mod (pe_ix ix_list (pv 0) pe_int (fun _ _ => rfl)) (pv 1)))
      (pss_cons (ps_asg (pe_op op_fdiv (pe_ix ix_list (pv 0) pe_int (fun _ _ => rfl)) (pv 1)) (pg_sub (pv 0) pe_int set_list))
      (pss_one (ps_ret (pv 2))))) pss_nil)
      (pss_cons (ps_asg (pe_op op_add (pe_ix ix_list (pv 0) pe_int (fun _ _ => rfl)) pe_int) (pg_sub (pv 0) pe_int set_list))
      (pss_cons (ps_set (i := 3) nd rfl (Or.inl rfl) (pe_op op_mod (pe_op op_powG (pe_op op_add (pe_ix ix_list (pv 0) pe_int (fun _ _ => rfl)) (pe_op op_mul pe_int (pe_ix ix_list (pv 0) pe_int (fun _ _ => rfl)))) pe_int) (pe_op op_add (pe_op op_pow pe_int pe_int) pe_int)))
      (pss_cons (ps_set (i := 3) nd rfl (Or.inl rfl) (pe_op op_mod (pe_op op_powG (pe_op op_add (pv 3) (pe_op op_mul pe_int (pe_ix ix_list (pv 0) pe_int (fun _ _ => rfl)))) pe_int) (pe_op op_add (pe_op op_pow pe_int pe_int) pe_int)))
      (pss_one (ps_ret (pe_op op_mod (pe_op op_fdiv (pv 3) pe_int) (pv 1)))))))), ?_⟩
    obtain ⟨a, b, c, ep, ha, hb, hb2, hc, hcn⟩ := hP
    rw [e2_160] at hb2
    have S0 : SqL K H p [.int a, .int b, .int c] := .inl (.inl ep)
    refine ⟨.ref p, rfl, p, _, 0, .int a, rfl, rfl, S0, atI_nat (j := 0) rfl, _, _, rfl, rfl, _, rfl, ite2 (fun d => ?_) (fun d => ?_)⟩
    · refine ⟨.ref p, rfl, p, _, 0, .int a, rfl, rfl, S0, atI_nat (j := 0) rfl, _, rfl, _, _, rfl, rfl, (by show 0 < m; omega), ?_⟩
      refine ⟨.ref p, rfl, p, _, 0, .int a, rfl, rfl, S0, atI_nat (j := 0) rfl, _, rfl, _, _, rfl, rfl, ⟨by omega, by omega⟩, ?_⟩
      refine ⟨.ref p, rfl, p, _, 0, 0, rfl, rfl, ep, rfl, _, rfl, ?_⟩
      exact q _ _ But.upd ⟨_, _, _, upd_same, Int.ediv_nonneg ha (by omega), hb, by rw [e2_160]; exact hb2, hc, by omega⟩ (Int.emod_nonneg _ (by omega)) (Int.emod_lt_of_pos _ (by omega))
    · refine ⟨.ref p, rfl, p, _, 2, .int c, rfl, rfl, S0, atI_nat (j := 2) rfl, _, _, rfl, rfl, ?_⟩
      refine ⟨.ref p, rfl, p, _, 2, 2, rfl, rfl, ep, rfl, ?_⟩
      have e1 : upd H p (.lst [.int a, .int b, .int (c + 1)]) p = some (.lst [.int a, .int b, .int (c + 1)]) := upd_same
      have S1 : SqL K (upd H p (.lst [.int a, .int b, .int (c + 1)])) p [.int a, .int b, .int (c + 1)] := .inl (.inl e1)
      refine ⟨.ref p, rfl, p, _, 1, .int b, rfl, rfl, S1, atI_nat (j := 1) rfl, .ref p, rfl, p, _, 2, .int (c + 1), rfl, rfl, S1, atI_nat (j := 2) rfl, _, _, rfl, rfl, .inl ⟨by decide, by decide⟩, _, _, rfl, rfl, _, _, rfl, rfl, cube_of (by omega) (by omega), ?_⟩
      refine ⟨_, _, rfl, rfl, pow_ok 39 (by decide) (by decide), _, _, rfl, rfl, _, _, rfl, rfl, (by show (0 : Int) < _; rw [pw39]; decide), ?_⟩
      rw [pw39]
      have m0 := Int.emod_nonneg ((b + 970051 * (c + 1)) ^ (3 : Int).toNat) (show (1000000000000000000000000000000000000000 + 3 : Int) ≠ 0 by decide)
      have m1 := Int.emod_lt_of_pos ((b + 970051 * (c + 1)) ^ (3 : Int).toNat) (show (0 : Int) < 1000000000000000000000000000000000000000 + 3 by decide)
      generalize (b + 970051 * (c + 1)) ^ (3 : Int).toNat % (1000000000000000000000000000000000000000 + 3) = z at m0 m1 ⊢
      refine ⟨_, rfl, .ref p, rfl, p, _, 2, .int (c + 1), rfl, rfl, S1, atI_nat (j := 2) rfl, _, _, rfl, rfl, .inl ⟨by decide, by decide⟩, _, _, rfl, rfl, _, _, rfl, rfl, cube_of (by omega) (by omega), ?_⟩
      refine ⟨_, _, rfl, rfl, pow_ok 36 (by decide) (by decide), _, _, rfl, rfl, _, _, rfl, rfl, (by show (0 : Int) < _; rw [pw36]; decide), ?_⟩
      refine ⟨_, rfl, _, _, rfl, rfl, ⟨by decide, by decide⟩, _, rfl, _, _, rfl, rfl, (by show 0 < m; omega), ?_⟩
      exact q _ _ But.upd ⟨a, b, c + 1, e1, ha, hb, by rw [e2_160]; exact hb2, by omega, by omega⟩ (Int.emod_nonneg _ (by omega)) (Int.emod_lt_of_pos _ (by omega))
def sp__law_net (K : PySem.W.Frag) : Sp := fun vs H Q _ => ∃ (p : Addr) (most : Int) (n : Nat), vs = [.ref p, .int most] ∧ Pl H p n ∧ n ≤ 900000 ∧ 1 ≤ most ∧ most ≤ 12 ∧
  ∀ H' (L : Addr) (as : List Addr) (ts : List (List Int)), But p H H' → Pl H' p (n + 400) → H L = none → H' L = some (.lst (as.map V.ref)) → Rows H' as ts → as.Nodup →
    (∀ r ∈ as, H r = none ∧ r ≠ L ∧ r ≠ p) → 1 ≤ as.length → as.length ≤ 12 → (∀ j t, ts[j]? = some t → LinksOf as.length j t) → Q (.ref L) H'
theorem ok__law_net (T : Top K mg)
    (G__law_draw : FnOk P w K mg base CX0 1 T.a__law_draw T.d__law_draw ["_law_source_here", "_law_count"] (sp__law_draw K)) :
    FnOk P w K mg base CX0 2 T.a__law_net T.d__law_net ["_law_source_here", "_law_most"] (sp__law_net K) := by
  refine T.F__law_net.ok sc__law_net (fun vs H Q E h => ?_) (fun cdv A outer s H vs Q E hr h => ?_)
  · obtain ⟨p, most, n, rfl, _⟩ := h
    rfl
  · obtain ⟨p, most, n, rfl, hP, hn, m1, m2, q⟩ := h
    have nd := sc__law_net.nd
    have hu := hu_of hr
    have hU := units_of hr
    have hu64 := u64_of hr
    refine ⟨_, (pss_cons (ps_set (i := 2) nd rfl (Or.inl rfl) (pe_ix ix_list (pe_lst (pa_cons (pe_op op_add pe_int (pe_call G__law_draw (hr.mono (by decide)) (by rfl) T.g__law_draw T.F__law_draw.kp T.b__law_draw .nil pass0 (pa_cons (pv 0) (pa_cons (pv 1) pa_nil)))) (pa_cons (pe_op op_add pe_int (pe_call G__law_draw (hr.mono (by decide)) (by rfl) T.g__law_draw T.F__law_draw.kp T.b__law_draw .nil pass0 (pa_cons (pv 0) (pa_cons (pe_callB (call_min2 rfl) (by rfl) T.n_min (by decide +kernel) (pa_cons (pv 1) (pa_cons pe_int pa_nil))) pa_nil)))) (pa_cons (pv 1) pa_nil)))) (pe_call G__law_draw (hr.mono (by decide)) (by rfl) T.g__law_draw T.F__law_draw.kp T.b__law_draw .nil pass0 (pa_cons (pv 0) (pa_cons pe_int pa_nil))) (fun _ _ => rfl)))
      (pss_cons (ps_par (i := 3) (j := 4) rfl nd rfl rfl (by decide) rfl rfl (pa_cons (pe_call G__law_draw (hr.mono (by decide)) (by rfl) T.g__law_draw T.F__law_draw.kp T.b__law_draw .nil pass0 (pa_cons (pv 0) (pa_cons pe_int pa_nil))) (pa_cons (pe_lst pa_nil) pa_nil)) (by rfl))
      (pss_cons (ps_for PassesOwn.never rfl (pi_range1 (by rfl) T.n_range (pa_cons (pv 2) pa_nil)) (pg_name (i := 5) nd rfl (Or.inl rfl)) (pss_cons (ps_set (i := 6) nd rfl (Or.inl rfl) (pe_lst pa_nil))
      (pss_cons (ps_for PassesOwn.never rfl (pi_range1 (by rfl) T.n_range (pa_cons (pv 2) pa_nil)) (pg_name (i := 7) nd rfl (Or.inl rfl)) (pss_cons (ps_set (i := 8) nd rfl (Or.inl rfl) (pe_lst (pa_cons pe_int (pa_cons (pe_callTy call_int1 (by rfl) T.n_int (by decide +kernel) (pa_cons (pe_cmpR op_eq (pv 7) (pe_op op_mod (pe_op op_add (pv 5) pe_int) (pv 2)) (nomark _)) pa_nil)) (pa_cons (pe_callTy call_int1 (by rfl) T.n_int (by decide +kernel) (pa_cons (pe_cmpR op_eq (pe_callB call_abs (by rfl) T.n_abs (by decide +kernel) (pa_cons (pe_op op_sub (pv 5) (pv 7)) pa_nil)) pe_int (nomark _)) pa_nil)) (pa_cons (pe_call G__law_draw (hr.mono (by decide)) (by rfl) T.g__law_draw T.F__law_draw.kp T.b__law_draw .nil pass0 (pa_cons (pv 0) (pa_cons pe_int pa_nil))) pa_nil))))))
      (pss_cons (ps_expr (pe_bm PySem.F.plainAttrs_list PySem.F.slot_list_append PySem.F.type_list_append mt_append (pv 8) (pa_cons (pe_callTy call_int1 (by rfl) T.n_int (by decide +kernel) (pa_cons (pe_cmpR op_eq (pe_call G__law_draw (hr.mono (by decide)) (by rfl) T.g__law_draw T.F__law_draw.kp T.b__law_draw .nil pass0 (pa_cons (pv 0) (pa_cons pe_int pa_nil))) pe_int (nomark _)) pa_nil)) pa_nil)))
      (pss_one (ps_if ((pw_and (pt_cmpR op_ne (pv 7) (pv 5) (nomark _)) (pw_and1 (pt_cmpR op_eq (pe_ix ix_list (pv 8) (pv 3) (fun _ _ => rfl)) pe_int (nomark _))))).pt (pss_one (ps_expr (pe_bm PySem.F.plainAttrs_list PySem.F.slot_list_append PySem.F.type_list_append mt_append (pv 6) (pa_cons (pv 7) pa_nil)))) pss_nil)))))
      (pss_one (ps_expr (pe_bm PySem.F.plainAttrs_list PySem.F.slot_list_append PySem.F.type_list_append mt_append (pv 4) (pa_cons (pv 6) pa_nil)))))))
      (pss_one (ps_ret (pv 4)))))), ?_⟩
    -- many
    have mm1 : 1 ≤ (if (5 : Int) < most then 5 else most) := by split <;> omega
    have mm2 : (if (5 : Int) < most then 5 else most) ≤ 12 := by split <;> omega
    refine ⟨.ref p, rfl, _, rfl, p, most, n, rfl, hP, by omega, by omega, by omega, fun H1 r1 b1 P1 l1 u1 => ⟨_, _, rfl, rfl, .ref p, rfl, _, rfl, _, _, rfl, p, _, _, rfl, P1, by omega, mm1, by omega, fun H2 r2 b2 P2 l2 u2 => ⟨_, _, rfl, rfl, _, rfl, (by show 3 ≤ sizeLine; decide), fun L hL => ?_⟩⟩⟩
    have hLp : L ≠ p := fun e => by
      obtain ⟨o, eo⟩ := P2.at
      rw [e, eo] at hL
      cases hL
    have P3 := P2.same (same_new (o := .lst [V.int (1 + r1), V.int (1 + r2), V.int most]) hL)
    refine ⟨.ref p, rfl, p, 3, _, rfl, P3, by omega, by decide, by decide, fun H4 r4 b4 P4 l4 u4 => ?_⟩
    have e4 : H4 L = some (.lst [V.int (1 + r1), V.int (1 + r2), V.int most]) := b4 _ _ hLp upd_same
    obtain ⟨v, av, mv⟩ := at_ex (xs := [V.int (1 + r1), V.int (1 + r2), V.int most]) l4 (by show r4 < 3; exact u4)
    obtain ⟨M, rfl, M1, M2⟩ : ∃ M : Nat, v = .int (M : Int) ∧ 1 ≤ M ∧ M ≤ 12 := by
      have key : ∀ k : Int, 1 ≤ k → k ≤ 12 → ∃ M : Nat, V.int k = .int (M : Int) ∧ 1 ≤ M ∧ M ≤ 12 := fun k h1 h2 => by
        obtain ⟨M, rfl⟩ := Int.eq_ofNat_of_zero_le (show 0 ≤ k by omega)
        exact ⟨M, rfl, by omega, by omega⟩
      rcases List.mem_cons.mp mv with e | mv
      · rw [e]
        exact key _ (by omega) (by omega)
      rcases List.mem_cons.mp mv with e | mv
      · rw [e]
        exact key _ (by omega) (by omega)
      rcases List.mem_cons.mp mv with e | mv
      · rw [e]
        exact key _ m1 m2
      · cases mv
    refine ⟨L, _, _, _, rfl, rfl, .inl (.inl e4), av, .ref p, rfl, p, 5, _, rfl, P4, by omega, by decide, by decide, fun H5 style b5 P5 st0 st1 => ⟨Nat.zero_le _, fun F hF => ⟨_, _, rfl, ?_⟩⟩⟩
    have B5 : But p H H5 := (((b1.trans b2).trans (.of_same (same_new hL))).trans b4).trans b5
    have nFp : F ≠ p := fun e => by
      obtain ⟨o, eo⟩ := P5.at
      rw [e, eo] at hF
      cases hF
    have hF0 : H F = none := B5.free nFp hF
    have BF : But p H (upd H5 F (.lst [])) := B5.new hF0
    have PF : Pl (upd H5 F (.lst [])) p (n + 10) := (P5.same (same_new hF)).mono (by omega)
    have eF : upd H5 F (.lst []) F = some (.lst (([] : List Addr).map V.ref)) := upd_same
    generalize upd H5 F (.lst []) = H6 at BF PF eF ⊢
    clear e4 av mv B5 b1 b2 b4 b5 P1 P2 P3 P4 P5 hF hL hLp
    refine ⟨_, rfl, (M : Int), rfl, by omega, by omega, for_range (n := M) (fun i σ H2 => ∃ y5 y6 y7 y8, ∃ (as : List Addr) (ts : List (List Int)), σ = [some (.ref p), some (.int most), some (.int (M : Int)), some (.int style), some (.ref F), y5, y6, y7, y8] ∧ But p H H2 ∧ Pl H2 p (n + 10 + 24 * i) ∧
      H2 F = some (.lst (as.map V.ref)) ∧ Rows H2 as ts ∧ as.length = i ∧ as.Nodup ∧ (∀ r ∈ as, H r = none ∧ r ≠ F ∧ r ≠ p) ∧ ∀ j t, ts[j]? = some t → LinksOf M j t) ⟨_, _, _, _, [], [], rfl, BF, PF, eF, .nil, rfl, List.nodup_nil, (fun _ h => nomatch h), fun j t h => by rw [List.getElem?_nil] at h; cases h⟩ (fun i σ H2 hi hW => ?_) (fun σ H2 hW => ?_)⟩
    case refine_2 =>
      obtain ⟨y5, y6, y7, y8, as, ts, rfl, B, P, e, R, hl, nd, fr, lk⟩ := hW
      exact ⟨_, rfl, q H2 F as ts B (P.mono (by omega)) hF0 e R nd fr (by omega) (by omega) (by rw [hl]; exact lk)⟩
    obtain ⟨y5, y6, y7, y8, as, ts, rfl, B2, P2, e2, R2, hlen, ndp, fr, lk⟩ := hW
    refine ⟨Nat.zero_le _, fun R hR => ?_⟩
    have nRp : R ≠ p := fun e => by
      obtain ⟨o, eo⟩ := P2.at
      rw [e, eo] at hR
      cases hR
    have nRF : R ≠ F := fun e => by
      rw [e, e2] at hR
      cases hR
    have hR0 : H R = none := B2.free nRp hR
    have nRa : R ∉ as := fun m => by
      obtain ⟨t, _, e⟩ := R2.mem m
      rw [hR] at e
      cases e
    have sR := same_new (o := .lst []) hR
    have B3 : But p H (upd H2 R (.lst [])) := B2.new hR0
    have P3 : Pl (upd H2 R (.lst [])) p (n + 10 + 24 * i + 2 * 0) := P2.same sR
    have e3 := sR _ _ e2
    have R3 : Rows (upd H2 R (.lst [])) as ts := R2.same sR
    have eR : upd H2 R (.lst []) R = some (.lst (([] : List Int).map V.int)) := upd_same
    generalize upd H2 R (.lst []) = H3 at B3 P3 e3 R3 eR ⊢
    clear sR B2 P2 e2 R2 hR
    refine ⟨_, rfl, (M : Int), rfl, by omega, by omega, for_range (n := M) (fun o σ H4 => ∃ y7 y8, ∃ t : List Int, σ = [some (.ref p), some (.int most), some (.int (M : Int)), some (.int style), some (.ref F), some (.int (0 + i)), some (.ref R), y7, y8] ∧ But p H H4 ∧ Pl H4 p (n + 10 + 24 * i + 2 * o) ∧
      H4 F = some (.lst (as.map V.ref)) ∧ Rows H4 as ts ∧ H4 R = some (.lst (t.map V.int)) ∧ t.length ≤ o ∧ (∀ z ∈ t, 0 ≤ z ∧ z < (o : Int) ∧ z ≠ (i : Int)) ∧ t.Pairwise (· < ·)) ⟨_, _, [], rfl, B3, P3, e3, R3, eR, Nat.le_refl 0, (fun _ h => nomatch h), .nil⟩ (fun o σ H4 ho hW => ?_) (fun σ H4 hW => ?_)⟩
    case refine_2 =>
      obtain ⟨y7, y8, t, rfl, B4, P4, e4, R4, eR4, tl, tz, tp⟩ := hW
      refine ⟨.ref F, rfl, .inl ⟨rfl, _, .inl (.inl e4)⟩, _, rfl, F, _, _, rfl, rfl, e4, ?_, ?_⟩
      · rw [List.length_map]
        exact Nat.lt_of_le_of_lt (show as.length ≤ 12 by omega) (by decide)
      have kp : ∀ b o, b ≠ F → H4 b = some o → upd H4 F (.lst (as.map V.ref ++ [V.ref R])) b = some o := fun b o nb e => (upd_ne nb).trans e
      refine ⟨_, _, _, _, as ++ [R], ts ++ [t], rfl, B4.new hF0, ?_, ?_, ?_, ?_, ?_, ?_, ?_⟩
      · obtain ⟨x1, x2, x3, e, e2⟩ := P4.mono (m := n + 10 + 24 * (i + 1)) (by omega)
        exact ⟨x1, x2, x3, kp _ _ nFp.symm e, e2⟩
      · rw [upd_same, List.map_append]
        rfl
      · exact Rows.snoc (kp _ _ nRF eR4) (R4.mono fun r hr o e => kp r o (fr r hr).2.1 e)
      · rw [List.length_append, hlen]
        rfl
      · refine List.nodup_append.mpr ⟨ndp, List.pairwise_singleton _ _, fun x hx y hy e => ?_⟩
        rw [e, List.mem_singleton.mp hy] at hx
        exact nRa hx
      · intro r hr
        rcases List.mem_append.mp hr with hr | hr
        · exact fr r hr
        · rw [List.mem_singleton.mp hr]
          exact ⟨hR0, nRF, nRp⟩
      · intro j t2 hj
        have hts : ts.length = i := by rw [← R3.length, hlen]
        by_cases lt : j < ts.length
        · rw [List.getElem?_append_left lt] at hj
          exact lk j t2 hj
        · rw [List.getElem?_append_right (Nat.le_of_not_lt lt)] at hj
          have ej : j - ts.length = 0 := by
            have := (List.getElem?_eq_some_iff.mp hj).1
            show j - ts.length = 0
            have h1 : j - ts.length < 1 := this
            omega
          rw [ej] at hj
          cases (Option.some.inj hj)
          have : j = i := by omega
          rw [this]
          exact ⟨tz, tp⟩
    obtain ⟨y7, y8, t, rfl, B4, P4, e4, R4, eR4, tl, tz, tp⟩ := hW
    have M0 : (0 : Int) < (M : Int) := by omega
    refine ⟨_, rfl, _, rfl, _, _, rfl, rfl, _, rfl, _, _, rfl, rfl, M0, rfl, .inr ⟨_, rfl, ?_⟩⟩
    refine ⟨_, rfl, _, rfl, _, _, rfl, rfl, _, rfl, rfl, .inr ⟨_, rfl, ?_⟩⟩
    refine ⟨.ref p, rfl, p, 2, _, rfl, P4, by omega, by decide, by decide, fun H5 d b5 P5 d0 d1 => ?_⟩
    generalize hx1 : (if decide (V.int (0 + (o : Int)) = V.int ((0 + (i : Int) + 1) % (M : Int))) = true then (1 : Int) else 0) = x1
    generalize hx2 : (if decide (V.int (if (0 + (i : Int) - (0 + (o : Int))) < 0 then -(0 + (i : Int) - (0 + (o : Int))) else 0 + (i : Int) - (0 + (o : Int))) = V.int 1) = true then (1 : Int) else 0) = x2
    clear hx1 hx2
    refine ⟨(by show 4 ≤ sizeLine; decide), fun G hG => ?_⟩
    have nGp : G ≠ p := fun e => by
      obtain ⟨o, eo⟩ := P5.at
      rw [e, eo] at hG
      cases hG
    have sG := same_new (o := .lst [.int 1, .int x1, .int x2, .int d]) hG
    have hG4 : H4 G = none := b5.free nGp hG
    have nFG : F ≠ G := fun e => by rw [← e, e4] at hG4; cases hG4
    have nRG : R ≠ G := fun e => by rw [← e, eR4] at hG4; cases hG4
    have eG : upd H5 G (.lst [.int 1, .int x1, .int x2, .int d]) G = some (.lst [.int 1, .int x1, .int x2, .int d]) := upd_same
    refine ⟨.ref G, rfl, .inl ⟨rfl, _, .inl (.inl eG)⟩, .ref p, rfl, p, 4, _, rfl, P5.same sG, by omega, by decide, by decide, fun H6 g b6 P6 g0 g1 => ?_⟩
    have eG6 := b6 _ _ nGp eG
    refine ⟨rfl, .inr ⟨_, rfl, G, _, _, rfl, rfl, eG6, (by show 4 < sizeLine; decide), ?_⟩⟩
    generalize (if decide (V.int g = V.int 0) = true then (1 : Int) else 0) = x3
    have b7 : But p H4 (upd H6 G (.lst ([.int 1, .int x1, .int x2, .int d] ++ [.int x3]))) := ((b5.trans (.of_same sG)).trans b6).new hG4
    have P7 : Pl (upd H6 G (.lst ([.int 1, .int x1, .int x2, .int d] ++ [.int x3]))) p (n + 10 + 24 * i + 2 * (o + 1)) := by
      obtain ⟨y1, y2, y3, e, e2⟩ := P6.mono (m := n + 10 + 24 * i + 2 * (o + 1)) (by omega)
      exact ⟨y1, y2, y3, (upd_ne nGp.symm).trans e, e2⟩
    have eG7 : upd H6 G (.lst ([.int 1, .int x1, .int x2, .int d] ++ [.int x3])) G = some (.lst [.int 1, .int x1, .int x2, .int d, .int x3]) := upd_same
    generalize upd H6 G (.lst ([.int 1, .int x1, .int x2, .int d] ++ [.int x3])) = H7 at b7 P7 eG7 ⊢
    clear sG eG eG6 b6 P6 b5 P5 hG P4
    have e7 := b7 _ _ nFp e4
    have eR7 := b7 _ _ nRp eR4
    have R7 : Rows H7 as ts := R4.mono fun r hr o e => b7 r o (fr r hr).2.2 e
    have B7 : But p H H7 := B4.trans b7
    have done : ∀ H8, H8 = H7 → ∃ y7 y8, ∃ t2 : List Int, [some (.ref p), some (.int most), some (.int (M : Int)), some (.int style), some (.ref F), some (.int (0 + (i : Int))), some (.ref R), some (V.int (0 + (o : Int))), some (V.ref G)] = [some (.ref p), some (.int most), some (.int (M : Int)), some (.int style), some (.ref F), some (.int (0 + (i : Int))), some (.ref R), y7, y8] ∧ But p H H8 ∧ Pl H8 p (n + 10 + 24 * i + 2 * (o + 1)) ∧
      H8 F = some (.lst (as.map V.ref)) ∧ Rows H8 as ts ∧ H8 R = some (.lst (t2.map V.int)) ∧ t2.length ≤ o + 1 ∧ (∀ z ∈ t2, 0 ≤ z ∧ z < ((o + 1 : Nat) : Int) ∧ z ≠ (i : Int)) ∧ t2.Pairwise (· < ·) := by
      intro H8 e8
      subst e8
      exact ⟨_, _, t, rfl, B7, P7, e7, R7, eR7, by omega, fun z hz => ⟨(tz z hz).1, by have := (tz z hz).2.1; omega, (tz z hz).2.2⟩, tp⟩
    refine ⟨_, rfl, _, rfl, rfl, _, rfl, ?_⟩
    by_cases c : (o : Int) = (i : Int)
    case pos =>
      rw [decide_eq_true (show V.int (0 + (o : Int)) = V.int (0 + (i : Int)) by rw [c])]
      show if (!true) = true then _ else _
      exact iteF (done _ rfl)
    rw [decide_eq_false (show ¬ V.int (0 + (o : Int)) = V.int (0 + (i : Int)) from fun w => c (by injection w with w; omega))]
    show if (!false) = true then _ else _
    refine iteT ?_
    obtain ⟨x, ax, mx⟩ := at_ex (xs := [V.int 1, .int x1, .int x2, .int d, .int x3]) st0 (by show style < 5; exact st1)
    obtain ⟨x4, rfl⟩ : ∃ x4, x = .int x4 := by
      rcases List.mem_cons.mp mx with e | mx
      · exact ⟨_, e⟩
      rcases List.mem_cons.mp mx with e | mx
      · exact ⟨_, e⟩
      rcases List.mem_cons.mp mx with e | mx
      · exact ⟨_, e⟩
      rcases List.mem_cons.mp mx with e | mx
      · exact ⟨_, e⟩
      · exact ⟨_, List.mem_singleton.mp mx⟩
    refine ⟨.ref G, rfl, _, rfl, G, _, _, _, rfl, rfl, .inl (.inl eG7), ax, rfl, _, rfl, ite2 (fun c2 => ?_) (fun c2 => ?_)⟩
    · refine ⟨.ref R, rfl, .inl ⟨rfl, _, .inl (.inl eR7)⟩, _, rfl, R, _, _, rfl, rfl, eR7, ?_, ?_⟩
      · rw [List.length_map]
        exact Nat.lt_of_le_of_lt (show t.length ≤ 12 by omega) (by decide)
      have kp : ∀ b o2, b ≠ R → H7 b = some o2 → upd H7 R (.lst (t.map V.int ++ [V.int (0 + (o : Int))])) b = some o2 := fun b o2 nb e => (upd_ne nb).trans e
      refine ⟨_, _, t ++ [(o : Int)], rfl, B7.new hR0, ?_, kp _ _ nRF.symm e7, R7.mono fun r hr o2 e => kp r o2 (fun w => nRa (w ▸ hr)) e, ?_, ?_, fun z hz => ?_, ?_⟩
      · obtain ⟨y1, y2, y3, e, e2⟩ := P7
        exact ⟨y1, y2, y3, kp _ _ nRp.symm e, e2⟩
      · rw [upd_same, List.map_append, Int.zero_add]
        rfl
      · rw [List.length_append]
        show t.length + 1 ≤ o + 1
        omega
      · rcases List.mem_append.mp hz with hz | hz
        · exact ⟨(tz z hz).1, by have := (tz z hz).2.1; omega, (tz z hz).2.2⟩
        · rw [List.mem_singleton.mp hz]
          exact ⟨Int.natCast_nonneg o, by omega, c⟩
      · refine List.pairwise_append.mpr ⟨tp, List.pairwise_singleton _ _, fun z hz z2 hz2 => ?_⟩
        rw [List.mem_singleton.mp hz2]
        exact (tz z hz).2.1
    · exact done _ rfl
def sp_is_int (K : PySem.W.Frag) : Sp := fun vs H Q _ => ∃ x, vs = [x] ∧ Kn H x ∧ Q (.bl (isI x)) H
theorem ok_is_int (T : Top K mg) :
    FnOk P w K mg base CX0 1 T.a_is_int T.d_is_int ["value"] (sp_is_int K) := by
  refine T.F_is_int.ok sc_is_int (fun vs H Q E h => ?_) (fun cdv A outer s H vs Q E hr h => ?_)
  · obtain ⟨x, rfl, _⟩ := h
    rfl
  · obtain ⟨x, rfl, hk, q⟩ := h
    have nd := sc_is_int.nd
    have hu := hu_of hr
    have hU := units_of hr
    have hu64 := u64_of hr
    refine ⟨_, (pss_one (ps_ret (pe_and (pe_callB call_isi (by rfl) T.n_isinstance (by decide +kernel) (pa_cons (pv 0) (pa_cons (pe_bltn (v := .ty "int") (by rfl) T.n_int (by decide +kernel) rfl) pa_nil))) (pe_one (pe_not (pe_callB call_isi (by rfl) T.n_isinstance (by decide +kernel) (pa_cons (pv 0) (pa_cons (pe_bltn (v := .ty "bool") (by rfl) T.n_bool (by decide +kernel) rfl) pa_nil)))))))), ?_⟩
    rw [isI_eq] at q
    refine ⟨x, rfl, x, _, _, _, _, rfl, .ty _, hk.ty, kit_ty (kit_int H hk), _, rfl, ite2 (fun c => ⟨x, rfl, x, _, _, _, _, rfl, .ty _, hk.ty, kit_ty (kit_bool H hk), _, rfl, ?_⟩) (fun c => ?_)⟩
    · rw [c] at q
      exact q
    · rw [eq_false_of_ne_true c] at q
      exact q
def sp_is_between (K : PySem.W.Frag) : Sp := fun vs H Q _ => ∃ x lo hi, vs = [x, .int lo, .int hi] ∧ Kn H x ∧ Q (.bl (inRg lo hi x)) H
theorem ok_is_between (T : Top K mg)
    (G_is_int : FnOk P w K mg base CX0 1 T.a_is_int T.d_is_int ["value"] (sp_is_int K)) :
    FnOk P w K mg base CX0 2 T.a_is_between T.d_is_between ["value", "low", "high"] (sp_is_between K) := by
  refine T.F_is_between.ok sc_is_between (fun vs H Q E h => ?_) (fun cdv A outer s H vs Q E hr h => ?_)
  · obtain ⟨x, lo, hi, rfl, _⟩ := h
    rfl
  · obtain ⟨x, lo, hi, rfl, hk, q⟩ := h
    have nd := sc_is_between.nd
    have hu := hu_of hr
    have hU := units_of hr
    have hu64 := u64_of hr
    refine ⟨_, (pss_one (ps_ret (pe_and (pe_call G_is_int (hr.mono (by decide)) (by rfl) T.g_is_int T.F_is_int.kp T.b_is_int .nil pass0 (pa_cons (pv 0) pa_nil)) (pe_one (pe_chain op_le op_le (pv 1) (pv 0) (pv 2)))))), ?_⟩
    refine ⟨x, rfl, x, rfl, hk, _, rfl, ite2 (fun c => ?_) (fun c => ?_)⟩
    · obtain ⟨i, rfl⟩ := isI_of c
      refine ⟨_, rfl, _, rfl, _, _, rfl, rfl, _, rfl, ite2 (fun d => ⟨_, rfl, _, _, rfl, rfl, ?_⟩) (fun d => ?_)⟩
      · have e : inRg lo hi (.int i) = decide (i ≤ hi) := by
          show (decide (lo ≤ i) && decide (i ≤ hi)) = _
          rw [d, Bool.true_and]
        show Q (.bl (decide (i ≤ hi))) H
        rw [← e]
        exact q
      · have e : inRg lo hi (.int i) = false := by
          show (decide (lo ≤ i) && decide (i ≤ hi)) = _
          rw [eq_false_of_ne_true d, Bool.false_and]
        show Q (.bl false) H
        rw [← e]
        exact q
    · have e : inRg lo hi x = false := by
        cases x <;> first | rfl | exact absurd rfl c
      show Q (.bl false) H
      rw [← e]
      exact q
def sp_are_pages (K : PySem.W.Frag) : Sp := fun vs H Q _ => ∃ x m, vs = [x, .int m] ∧ OkV H x ∧ ∀ H', Same H H' → Q (.bl (itemsB (pgsB m) H x)) H'
theorem ok_are_pages (T : Top K mg)
    (G_is_between : FnOk P w K mg base CX0 2 T.a_is_between T.d_is_between ["value", "low", "high"] (sp_is_between K)) :
    FnOk P w K mg base CX0 3 T.a_are_pages T.d_are_pages ["value", "many"] (sp_are_pages K) := by
  refine T.F_are_pages.ok sc_are_pages (fun vs H Q E h => ?_) (fun cdv A outer s H vs Q E hr h => ?_)
  · obtain ⟨x, m, rfl, _⟩ := h
    rfl
  · obtain ⟨x, m, rfl, hk, q⟩ := h
    have nd := sc_are_pages.nd
    have hu := hu_of hr
    have hU := units_of hr
    have hu64 := u64_of hr
    refine ⟨_, (pss_one (ps_ret (pe_and (pe_callB call_isi (by rfl) T.n_isinstance (by decide +kernel) (pa_cons (pv 0) (pa_cons (pe_bltn (v := .ty "list") (by rfl) T.n_list (by decide +kernel) rfl) pa_nil))) (pe_one (pe_callB (cr_all rfl) (by rfl) T.n_all (by decide +kernel) (pa_cons (pe_lc (own := [("item", 2)]) (tt := tYes) rfl nd  (pi_list (pv 0)) (blkOk_by (N := N_are_pages) (sc := defScope s_are_pages) (by decide +kernel)) (fun _ _ _ _ _ => (pg_name (i := 2) nd rfl (Or.inl rfl))) (fun _ _ _ _ _ => pts_nil) (fun _ _ _ _ _ => (pe_call G_is_between (hr.mono (by decide)) (by rfl) T.g_is_between T.F_is_between.kp T.b_is_between .nil pass0 (pa_cons (pv 2) (pa_cons pe_int (pa_cons (pe_op op_sub (pv 1) pe_int) pa_nil)))))) pa_nil)))))), ?_⟩
    refine ⟨x, rfl, x, _, _, _, _, rfl, .ty _, hk.1.ty, kit_ty (kit_list H hk.1), _, rfl, ite2 (fun c => ?_) (fun c => ?_)⟩
    · obtain ⟨a, xs, rfl, ea⟩ := isLB_of c
      obtain ⟨hl, hy⟩ := hk.2 a xs rfl ea
      rw [itemsB_lst ea] at q
      refine ⟨.ref a, rfl, a, rfl, ⟨xs, .inl (.inl ea)⟩, fun D hD => lc_list (xs := xs) (fun i H' => Same H H' ∧ H' D = some (.lst ((xs.take i).map fun y => V.bl (inRg 0 (m - 1) y)))) ⟨same_new hD, upd_same⟩ (fun i H' _ hp => .inl (.inl (hp.1 _ _ ea))) (fun i y H' hi hp => ?_) (fun H' hp => ?_)⟩
      · refine ⟨rfl, y, rfl, _, rfl, _, _, rfl, rfl, ?_⟩
        obtain ⟨hs, eD⟩ := hp
        refine ⟨y, 0, m - 1, rfl, (hy y (List.mem_of_getElem? hi)).same hs, _, eD, ?_, ?_, ?_⟩
        · rw [List.length_map, List.length_take]
          exact Nat.lt_of_le_of_lt (Nat.min_le_right _ _) (Nat.lt_of_le_of_lt hl (by decide))
        · intro b o e
          have nb : b ≠ D := ne_of_none e hD
          rw [upd_ne nb]
          exact hs b o e
        · rw [upd_same, List.take_add_one, hi, List.map_append]
          rfl
      · obtain ⟨hs, eD⟩ := hp
        rw [List.take_length] at eD
        have e2 : xs.map (fun y => V.bl (inRg 0 (m - 1) y)) = (xs.map (inRg 0 (m - 1))).map V.bl := by
          rw [List.map_map]
          rfl
        rw [e2] at eD
        refine ⟨D, _, rfl, .inl (.inl eD), ?_⟩
        have e3 : (xs.map (inRg 0 (m - 1))).all id = pgsB m xs := by
          unfold pgsB
          rw [List.all_map]
          rfl
        rw [e3]
        exact q H' hs
    · rw [itemsB_no c] at q
      exact q H (Same.refl H)
def sp__are_links (K : PySem.W.Frag) : Sp := fun vs H Q _ => ∃ (x : V) (p : Int) (m : Nat), vs = [x, .int p, .int m] ∧ OkV H x ∧ m ≤ 40 ∧ ∀ H', Same H H' → Q (.bl (itemsB (linkB p m) H x)) H'
theorem ok__are_links (T : Top K mg)
    (G_are_pages : FnOk P w K mg base CX0 3 T.a_are_pages T.d_are_pages ["value", "many"] (sp_are_pages K)) :
    FnOk P w K mg base CX0 4 T.a__are_links T.d__are_links ["value", "page", "many"] (sp__are_links K) := by
  refine T.F__are_links.ok sc__are_links (fun vs H Q E h => ?_) (fun cdv A outer s H vs Q E hr h => ?_)
  · obtain ⟨x, p, m, rfl, _⟩ := h
    rfl
  · obtain ⟨x, p, m, rfl, hk, hm, q⟩ := h
    have nd := sc__are_links.nd
    have hu := hu_of hr
    have hU := units_of hr
    have hu64 := u64_of hr
    refine ⟨_, (pss_one (ps_ret (pe_and (pe_call G_are_pages (hr.mono (by decide)) (by rfl) T.g_are_pages T.F_are_pages.kp T.b_are_pages .nil pass0 (pa_cons (pv 0) (pa_cons (pv 2) pa_nil))) (pe_and (pe_cmpR (op_eqD hu64) (pv 0) (pe_callB (cr_sortedSet rfl) (by rfl) T.n_sorted (by decide +kernel) (pa_cons (pe_callTy (cr_setL rfl) (by rfl) T.n_set (by decide +kernel) (pa_cons (pv 0) pa_nil)) pa_nil)) (nomark _)) (pe_one (pe_cmpR op_notIn_seq (pv 1) (pv 0) rfl)))))), ?_⟩
    refine ⟨x, rfl, _, rfl, x, m, rfl, hk, fun H1 s1 => ⟨_, rfl, ite2 (fun c => ?_) (fun c => ?_)⟩⟩
    · by_cases hL : isLB H x = true
      · obtain ⟨a, xs, rfl, ea⟩ := isLB_of hL
        rw [itemsB_lst ea] at c q
        have ex := nums_of (show xs.all (inRg 0 (m - 1)) = true from c)
        have e1 : H1 a = some (.lst ((nums xs).map V.int)) := by
          rw [ex]
          exact s1 _ _ ea
        have hl : (nums xs).length ≤ 4000 := by
          unfold nums
          rw [List.length_map]
          exact (hk.2 a xs rfl ea).1
        have rg : ∀ k ∈ nums xs, 0 ≤ k ∧ k < (m : Int) := fun k kk => by
          have h1 : xs.all (inRg 0 (m - 1)) = true := c
          rw [← ex] at h1
          have h2 := List.all_eq_true.mp h1 (.int k) (List.mem_map.mpr ⟨k, kk, rfl⟩)
          have h3 : (decide (0 ≤ k) && decide (k ≤ (m : Int) - 1)) = true := h2
          rw [Bool.and_eq_true] at h3
          have h4 := of_decide_eq_true h3.1
          have h5 := of_decide_eq_true h3.2
          omega
        refine ⟨.ref a, rfl, .ref a, rfl, a, nums xs, rfl, .inl (.inl e1), hl, fun S n hS once => ⟨S, _, n, rfl, upd_same, by have := once_le once rg; omega, fun ns z pw mem len hz => ?_⟩⟩
        have s2 := (same_new (o := SetO w S (fun j => decide (j ∈ nums xs)) n) hS).trans (same_new (o := .lst (ns.map V.int)) hz)
        have e2 := s2 _ _ e1
        refine ⟨nD (nums xs), nD ns, dp_nD (.inl (.inl e2)), dp_nD (.inl (.inl upd_same)), nD_shaped _, nD_shaped _, _, rfl, ?_⟩
        have e3 : PyData.eqv (nD (nums xs)) (nD ns) = decide ((nums xs).Pairwise (· < ·)) := by
          rw [eqv_nD]
          exact decide_eq_decide.mpr (sorted_iff pw fun k => (mem k).trans decide_eq_true_iff)
        rw [e3]
        have el : linkB p m xs = (decide ((nums xs).Pairwise (· < ·)) && !decide (p ∈ nums xs)) := by
          unfold linkB
          rw [c, Bool.true_and]
        rw [el] at q
        have q2 := q _ (s1.trans s2)
        refine ite2 (fun d => ?_) (fun d => ?_)
        · refine ⟨_, rfl, .ref a, rfl, a, _, rfl, .inl (.inl (.inl e2)), rfl, flat_nums _, ?_⟩
          rw [d, Bool.true_and] at q2
          show Q (.bl (!inV (.int p) ((nums xs).map V.int))) _
          rw [inV_nums]
          exact q2
        · rw [eq_false_of_ne_true d, Bool.false_and] at q2
          exact q2
      · rw [itemsB_no hL] at c
        cases c
    · have e : itemsB (linkB p m) H x = false := by
        by_cases hL : isLB H x = true
        · obtain ⟨a, xs, rfl, ea⟩ := isLB_of hL
          rw [itemsB_lst ea] at c ⊢
          unfold linkB
          rw [eq_false_of_ne_true c, Bool.false_and]
        · exact itemsB_no hL
      rw [e] at q
      exact q H1 s1
def sp_is_site (K : PySem.W.Frag) : Sp := fun vs H Q _ => ∃ x, vs = [x] ∧ Ok2 H x ∧ ∀ H', Same H H' → Q (.bl (siteB H x)) H'
theorem ok_is_site (T : Top K mg)
    (G__are_links : FnOk P w K mg base CX0 4 T.a__are_links T.d__are_links ["value", "page", "many"] (sp__are_links K)) :
    FnOk P w K mg base CX0 5 T.a_is_site T.d_is_site ["value"] (sp_is_site K) := by
  refine T.F_is_site.ok sc_is_site (fun vs H Q E h => ?_) (fun cdv A outer s H vs Q E hr h => ?_)
  · obtain ⟨x, rfl, _⟩ := h
    rfl
  · obtain ⟨x, rfl, hk, q⟩ := h
    have nd := sc_is_site.nd
    have hu := hu_of hr
    have hU := units_of hr
    have hu64 := u64_of hr
    refine ⟨_, (pss_cons (ps_if ((pw_or (pt_not (pt_val (pe_callB call_isi (by rfl) T.n_isinstance (by decide +kernel) (pa_cons (pv 0) (pa_cons (pe_bltn (v := .ty "list") (by rfl) T.n_list (by decide +kernel) rfl) pa_nil))))) (pw_or1 (pt_not (pt_chain op_le op_le pe_int (pe_callB call_len_seq (by rfl) T.n_len (by decide +kernel) (pa_cons (pv 0) pa_nil)) (pe_glob (v := .int (12)) (by rfl) T.g_MOST_PAGES ⟨_, rfl⟩)))))).pt (pss_one (ps_ret pe_bl)) pss_nil)
      (pss_one (ps_ret (pe_callB (cr_all rfl) (by rfl) T.n_all (by decide +kernel) (pa_cons (pe_lc (own := [("page", 1), ("links", 2)]) (tt := tYes) rfl nd  (pi_enum (by rfl) T.n_enumerate (pa_cons (pv 0) pa_nil)) (blkOk_by (N := N_is_site) (sc := defScope s_is_site) (by decide +kernel)) (fun _ _ _ _ _ => (pg_tupK (K := K) (n := 2) rfl rfl (pgs_cons (pg_name (i := 1) nd rfl (Or.inl rfl)) (pgs_cons (pg_name (i := 2) nd rfl (Or.inl rfl)) pgs_nil)))) (fun _ _ _ _ _ => pts_nil) (fun _ _ _ _ _ => (pe_call G__are_links (hr.mono (by decide)) (by rfl) T.g__are_links T.F__are_links.kp T.b__are_links .nil pass0 (pa_cons (pv 2) (pa_cons (pv 1) (pa_cons (pe_callB (call_lenK (K := K) rfl) (by rfl) T.n_len (by decide +kernel) (pa_cons (pv 0) pa_nil)) pa_nil)))))) pa_nil))))), ?_⟩
    refine ⟨x, rfl, x, _, _, _, _, rfl, .ty _, hk.1.ty, kit_ty (kit_list H hk.1), _, rfl, ?_⟩
    show if (!isLB H x) = true then _ else _
    by_cases hL : isLB H x = true
    case neg =>
      rw [eq_false_of_ne_true hL]
      refine iteT ?_
      have := q H (Same.refl H)
      unfold siteB at this
      rw [itemsB_no hL] at this
      exact this
    rw [hL]
    refine iteF ?_
    obtain ⟨a, xs, rfl, ea⟩ := isLB_of hL
    obtain ⟨hlen, hkn⟩ := hk.2 a xs rfl ea
    unfold siteB at q
    rw [itemsB_lst ea] at q
    refine ⟨.ref a, rfl, a, xs, rfl, .inl (.inl (.inl ea)), _, _, rfl, rfl, _, rfl, ite2 (fun d => ?_) (fun d => ?_)⟩
    case refine_2 =>
      refine ⟨_, rfl, ?_⟩
      show if (!false) = true then _ else _
      refine iteT ?_
      have := q H (Same.refl H)
      unfold siteL at this
      have h1 : ¬ 1 ≤ xs.length := fun w => d (decide_eq_true (by omega))
      rw [decide_eq_false h1, Bool.false_and] at this
      exact this
    have d1 := of_decide_eq_true d
    have d2 : 1 ≤ xs.length := by omega
    refine ⟨_, _, rfl, rfl, _, rfl, ?_⟩
    by_cases c : xs.length ≤ 12
    case neg =>
      rw [decide_eq_false (show ¬ ((xs.length : Nat) : Int) ≤ 12 by omega)]
      show if (!false) = true then _ else _
      refine iteT ?_
      have := q H (Same.refl H)
      unfold siteL at this
      rw [decide_eq_false c, Bool.false_and, Bool.and_false] at this
      exact this
    rw [decide_eq_true (show ((xs.length : Nat) : Int) ≤ 12 by omega)]
    show if (!true) = true then _ else _
    refine iteF ?_
    refine ⟨.ref a, rfl, a, _, rfl, .inl (.inl ea), fun D hD => lc_enum (xs := xs) (fun i H2 => Same H H2 ∧ H2 D = some (.lst (((List.range i).map (rowB H xs)).map V.bl))) ⟨same_new hD, upd_same⟩ (fun i H2 _ hW => .inl (.inl (hW.1 _ _ ea))) (fun i y H2 T hi hW hT => ?_) (fun H2 hW => ?_)⟩
    · obtain ⟨s2, eD⟩ := hW
      have hil : i < xs.length := (List.getElem?_eq_some_iff.mp hi).1
      have hm := List.mem_of_getElem? hi
      have s3 : Same H (upd H2 T (.tup [.int (i : Nat), y])) := s2.trans (same_new hT)
      refine ⟨T, _, rfl, .inl (.inl upd_same), rfl, _, _, rfl, _, [], rfl, rfl, rfl, ?_⟩
      refine ⟨_, rfl, _, rfl, .ref a, rfl, a, xs, rfl, .inl (.inl (.inl (s3 _ _ ea))), y, (i : Int), xs.length, rfl, okv_same s3 (hkn y hm), by omega, fun H4 s4 => ?_⟩
      rw [itemsB_same s3 (hkn y hm).1]
      have eD4 := s4 _ _ ((same_new (o := .tup [.int (i : Nat), y]) hT) _ _ eD)
      refine ⟨_, eD4, ?_, fun b o e => ?_, ?_⟩
      · rw [List.length_map, List.length_map, List.length_range]
        exact Nat.lt_of_lt_of_le hil (Nat.le_trans c (by decide))
      · rw [upd_ne (ne_of_none e hD)]
        exact s4 _ _ (s3 _ _ e)
      · rw [upd_same, List.range_succ, List.map_append, List.map_append]
        have er : rowB H xs i = itemsB (linkB (i : Int) (xs.length : Int)) H y := by
          unfold rowB
          rw [hi]
        show some (HO.lst (_ ++ [_])) = some (HO.lst (_ ++ [V.bl (rowB H xs i)]))
        rw [er]
    · obtain ⟨s2, eD⟩ := hW
      refine ⟨D, _, rfl, .inl (.inl eD), ?_⟩
      have e3 : (((List.range xs.length).map (rowB H xs)).all id) = siteL H xs := by
        unfold siteL
        rw [decide_eq_true d2, decide_eq_true c, Bool.true_and, Bool.true_and, List.all_map]
        rfl
      rw [e3]
      exact q H2 s2
def sp__law_is_net (K : PySem.W.Frag) : Sp := fun vs H Q _ => ∃ x, vs = [x] ∧ Ok2 H x ∧ ∀ H', Same H H' → Q (.bl (siteB H x)) H'
theorem ok__law_is_net (T : Top K mg) :
    FnOk P w K mg base CX0 1 T.a__law_is_net T.d__law_is_net ["_law_value"] (sp__law_is_net K) := by
  refine T.F__law_is_net.ok sc__law_is_net (fun vs H Q E h => ?_) (fun cdv A outer s H vs Q E hr h => ?_)
  · obtain ⟨x, rfl, _⟩ := h
    rfl
  · obtain ⟨x, rfl, hk, q⟩ := h
    have nd := sc__law_is_net.nd
    have hu := hu_of hr
    have hU := units_of hr
    have hu64 := u64_of hr
    refine ⟨_, (pss_cons (ps_if ((pw_or (pt_not (pt_val (pe_callB call_isi (by rfl) T.n_isinstance (by decide +kernel) (pa_cons (pv 0) (pa_cons (pe_bltn (v := .ty "list") (by rfl) T.n_list (by decide +kernel) rfl) pa_nil))))) (pw_or (pt_cmpR (op_eqNil (Nat.lt_of_succ_lt hu)) (pv 0) (pe_lst pa_nil) (nomark _)) (pw_or1 (pt_cmpR op_gt (pe_callB call_len_seq (by rfl) T.n_len (by decide +kernel) (pa_cons (pv 0) pa_nil)) pe_int (nomark _)))))).pt (pss_one (ps_ret pe_bl)) pss_nil)
      (pss_cons (ps_for PassesOwn.never rfl (pi_enum (by rfl) T.n_enumerate (pa_cons (pv 0) pa_nil)) (pg_tup rfl (pgs_cons (pg_name (i := 1) nd rfl (Or.inl rfl)) (pgs_cons (pg_name (i := 2) nd rfl (Or.inl rfl)) pgs_nil))) (pss_cons (ps_if (pt_not (pt_val (pe_callB call_isi (by rfl) T.n_isinstance (by decide +kernel) (pa_cons (pv 2) (pa_cons (pe_bltn (v := .ty "list") (by rfl) T.n_list (by decide +kernel) rfl) pa_nil))))) (pss_one (ps_ret pe_bl)) pss_nil)
      (pss_cons (ps_set (i := 3) nd rfl (Or.inl rfl) (pe_un un_neg pe_int))
      (pss_one (ps_for PassesOwn.never rfl (pi_list (pv 2)) (pg_name (i := 4) nd rfl (Or.inl rfl)) (pss_cons (ps_if ((pw_or (pt_val (pe_callB call_isi (by rfl) T.n_isinstance (by decide +kernel) (pa_cons (pv 4) (pa_cons (pe_bltn (v := .ty "bool") (by rfl) T.n_bool (by decide +kernel) rfl) pa_nil)))) (pw_or (pt_not (pt_val (pe_callB call_isi (by rfl) T.n_isinstance (by decide +kernel) (pa_cons (pv 4) (pa_cons (pe_bltn (v := .ty "int") (by rfl) T.n_int (by decide +kernel) rfl) pa_nil))))) (pw_or (pt_cmpR op_le (pv 4) (pv 3) (nomark _)) (pw_or1 (pt_cmpR op_ge (pv 4) (pe_callB call_len_seq (by rfl) T.n_len (by decide +kernel) (pa_cons (pv 0) pa_nil)) (nomark _))))))).pt (pss_one (ps_ret pe_bl)) pss_nil)
      (pss_cons (ps_if (pt_cmpR op_eq (pv 4) (pv 1) (nomark _)) (pss_one (ps_ret pe_bl)) pss_nil)
      (pss_one (ps_set (i := 3) nd rfl (Or.inl rfl) (pv 4))))))))))
      (pss_one (ps_ret pe_bl)))), ?_⟩
    refine ⟨x, rfl, x, _, _, _, _, rfl, .ty _, hk.1.ty, kit_ty (kit_list H hk.1), _, rfl, ?_⟩
    show if (!isLB H x) = true then _ else _
    by_cases hL : isLB H x = true
    case neg =>
      rw [eq_false_of_ne_true hL]
      refine iteT ?_
      have := q H (Same.refl H)
      unfold siteB at this
      rw [itemsB_no hL] at this
      exact this
    rw [hL]
    refine iteF ?_
    obtain ⟨a, xs, rfl, ea⟩ := isLB_of hL
    obtain ⟨hlen, hkn⟩ := hk.2 a xs rfl ea
    unfold siteB at q
    rw [itemsB_lst ea] at q
    refine ⟨.ref a, rfl, Nat.zero_le _, fun Z hZ => ?_⟩
    have sZ := same_new (o := .lst []) hZ
    refine ⟨a, Z, xs, rfl, rfl, .inl (.inl (sZ _ _ ea)), .inl (.inl upd_same), _, rfl, ite2 (fun d => ?_) (fun d => ?_)⟩
    · refine iteT ?_
      have := q _ sZ
      unfold siteL at this
      have h1 : ¬ 1 ≤ xs.length := by have := of_decide_eq_true d; omega
      rw [decide_eq_false h1, Bool.false_and] at this
      exact this
    have d2 : 1 ≤ xs.length := by
      have h1 : ¬ xs.length = 0 := fun w => d (decide_eq_true w)
      omega
    refine ⟨.ref a, rfl, a, xs, rfl, .inl (.inl (.inl (sZ _ _ ea))), _, _, rfl, rfl, _, rfl, ite2 (fun c => ?_) (fun c => ?_)⟩
    · have := q _ sZ
      unfold siteL at this
      have h1 : ¬ xs.length ≤ 12 := by have := of_decide_eq_true c; omega
      rw [decide_eq_false h1, Bool.false_and, Bool.and_false] at this
      exact this
    have c2 : xs.length ≤ 12 := by
      by_cases w : xs.length ≤ 12
      · exact w
      · exact absurd (decide_eq_true (show ((xs.length : Nat) : Int) > 12 by omega)) c
    generalize upd H Z (.lst []) = H1 at sZ ⊢
    have bad : ∀ j, j < xs.length → rowB H xs j = false → ∀ H', Same H1 H' → Q (.bl false) H' := fun j hj hb H' s => by
      have h1 := q H' (sZ.trans s)
      unfold siteL at h1
      have h2 : (List.range xs.length).all (rowB H xs) = false := by
        cases e : (List.range xs.length).all (rowB H xs) with
        | false => rfl
        | true =>
          have := List.all_eq_true.mp e j (List.mem_range.mpr hj)
          rw [hb] at this
          cases this
      rw [h2, Bool.and_false, Bool.and_false] at h1
      exact h1
    refine ⟨.ref a, rfl, a, _, rfl, .inl (.inl (sZ _ _ ea)), for_enum (xs := xs) (fun i σ H2 => Same H1 H2 ∧ (∀ j, j < i → rowB H xs j = true) ∧ ∃ y1 y2 y3 y4, σ = [some (.ref a), y1, y2, y3, y4]) ⟨Same.refl _, fun j hj => absurd hj (Nat.not_lt_zero _), _, _, _, _, rfl⟩ (fun i σ H2 _ hW => .inl (.inl (hW.1 _ _ (sZ _ _ ea)))) (fun i y σ H2 T hi hW hT => ?_) (fun σ H2 hW => ?_)⟩
    · obtain ⟨s2, hg, y1, y2, y3, y4, rfl⟩ := hW
      have hil : i < xs.length := (List.getElem?_eq_some_iff.mp hi).1
      have ok := hkn y (List.mem_of_getElem? hi)
      have s3 : Same H1 (upd H2 T (.tup [.int (i : Nat), y])) := s2.trans (same_new hT)
      have s4 := sZ.trans s3
      have er : rowB H xs i = itemsB (linkB (i : Int) (xs.length : Int)) H y := by
        unfold rowB
        rw [hi]
      refine ⟨T, _, rfl, .inl (.inl upd_same), rfl, _, _, rfl, _, [], rfl, rfl, ?_⟩
      generalize upd H2 T (.tup [.int (i : Nat), y]) = H3 at s3 s4 ⊢
      have kn3 := ok.1.same s4
      refine ⟨y, rfl, y, _, _, _, _, rfl, .ty _, kn3.ty, kit_ty (kit_list H3 kn3), _, rfl, ?_⟩
      show if (!isLB H3 y) = true then _ else _
      by_cases hy : isLB H y = true
      case neg =>
        have e3 : isLB H3 y = false := by
          cases e : isLB H3 y with
          | false => rfl
          | true =>
            obtain ⟨b, ys, rfl, eb⟩ := isLB_of e
            rcases ok.1 with ⟨zs, ez⟩ | ⟨zs, ez⟩ | ⟨zs, ez⟩
            · exact absurd (by show (match H b with | some (.lst _) => true | _ => false) = true; rw [ez]) hy
            · have := s4 _ _ ez
              rw [eb] at this
              cases this
            · have := s4 _ _ ez
              rw [eb] at this
              cases this
        rw [e3]
        exact iteT (bad i hil (by rw [er]; exact itemsB_no hy) _ s3)
      obtain ⟨b, ys, rfl, eb⟩ := isLB_of hy
      have eb3 := s4 _ _ eb
      have e3 : isLB H3 (.ref b) = true := by
        show (match H3 b with | some (.lst _) => true | _ => false) = true
        rw [eb3]
      rw [e3]
      refine iteF ?_
      obtain ⟨hylen, hyk⟩ := ok.2 b ys rfl eb
      rw [itemsB_lst eb] at er
      refine ⟨1, rfl, .ref b, rfl, b, rfl, ⟨ys, .inl (.inl eb3)⟩, for_list (xs := ys) (fun j σ H4 => H4 = H3 ∧ ∃ (zs : List Int) (last : Int) (y4 : Option V), ys.take j = zs.map V.int ∧ (∀ z ∈ zs, 0 ≤ z ∧ z < (xs.length : Int) ∧ z ≠ (i : Int)) ∧ zs.Pairwise (· < ·) ∧
        (∀ z ∈ zs, z ≤ last) ∧ ((zs = [] ∧ last = -1) ∨ last ∈ zs) ∧ σ = [some (.ref a), some (.int (i : Nat)), some (.ref b), some (.int last), y4]) ⟨rfl, [], -1, _, rfl, (fun _ h => nomatch h), .nil, (fun _ h => nomatch h), .inl ⟨rfl, rfl⟩, rfl⟩ (fun j σ H4 _ hW => ?_) (fun j v σ H4 hj hW => ?_) (fun σ H4 hW => ?_)⟩
      · obtain ⟨rfl, _⟩ := hW
        exact .inl (.inl eb3)
      · obtain ⟨rfl, zs, last, y4, ht, hz, hp, hl, hlast, rfl⟩ := hW
        have kn := (hyk v (List.mem_of_getElem? hj)).same s4
        have no : (∀ z, v = .int z → 0 ≤ z → z < (xs.length : Int) → z ≠ (i : Int) → (∀ z' ∈ zs, z' < z) → False) → Q (.bl false) H4 := fun w => by
          refine bad i hil ?_ _ s3
          rw [er]
          cases e : linkB (i : Int) (xs.length : Int) ys with
          | false => rfl
          | true =>
            obtain ⟨z, w1, w2, w3, w4, w5⟩ := link_at e hj ht
            exact (w z w1 w2 w3 w4 w5).elim
        refine ⟨v, rfl, v, _, _, _, _, rfl, .ty _, kn.ty, kit_ty (kit_bool H4 kn), _, rfl, ?_⟩
        show if isBB v = true then _ else _
        refine ite2 (fun cc => iteT (no fun z e => by rw [e] at cc; cases cc)) (fun cc => ?_)
        refine ⟨v, rfl, v, _, _, _, _, rfl, .ty _, kn.ty, kit_ty (kit_int H4 kn), _, rfl, ?_⟩
        show if (!isIB v) = true then _ else _
        by_cases hI : isIB v = true
        case neg =>
          rw [eq_false_of_ne_true hI]
          exact iteT (iteT (no fun z e _ _ _ _ => hI (by rw [e]; rfl)))
        rw [hI]
        refine iteF ?_
        obtain ⟨z, rfl⟩ : ∃ z, v = .int z := by
          cases v with
          | int z => exact ⟨z, rfl⟩
          | bl b => exact absurd rfl cc
          | _ => cases hI
        refine ⟨_, rfl, _, rfl, _, _, rfl, rfl, _, rfl, ite2 (fun c1 => ?_) (fun c1 => ?_)⟩
        · have c1 := of_decide_eq_true c1
          refine iteT (no fun z2 e w1 w2 w3 w4 => ?_)
          cases e
          rcases hlast with ⟨_, rfl⟩ | hm
          · omega
          · have := w4 _ hm
            omega
        have c1' : ¬ z ≤ last := fun w => c1 (decide_eq_true w)
        refine ⟨_, rfl, .ref a, rfl, a, xs, rfl, .inl (.inl (.inl (s4 _ _ ea))), _, _, rfl, rfl, _, rfl, ite2 (fun c2 => ?_) (fun c2 => ?_)⟩
        · have c2 := of_decide_eq_true c2
          refine no fun z2 e w1 w2 w3 w4 => ?_
          cases e
          omega
        have c2' : ¬ (xs.length : Int) ≤ z := fun w => c2 (decide_eq_true w)
        have z0 : 0 ≤ z := by
          rcases hlast with ⟨_, rfl⟩ | hm
          · omega
          · have := (hz _ hm).1
            omega
        refine ⟨_, rfl, _, rfl, rfl, _, rfl, ite2 (fun c3 => ?_) (fun c3 => ?_)⟩
        · have c3 := of_decide_eq_true c3
          refine no fun z2 e w1 w2 w3 w4 => ?_
          cases e
          injection c3 with c3
          exact w3 c3
        have c3' : z ≠ (i : Int) := fun w => c3 (decide_eq_true (by rw [w]))
        refine ⟨_, rfl, rfl, zs ++ [z], z, _, ?_, fun z2 h2 => ?_, ?_, fun z2 h2 => ?_, .inr (List.mem_append_right _ (List.mem_singleton.mpr rfl)), rfl⟩
        · rw [List.take_add_one, hj, ht, List.map_append]
          rfl
        · rcases List.mem_append.mp h2 with h2 | h2
          · exact hz z2 h2
          · rw [List.mem_singleton.mp h2]
            exact ⟨z0, by omega, c3'⟩
        · refine List.pairwise_append.mpr ⟨hp, List.pairwise_singleton _ _, fun z2 h2 z3 h3 => ?_⟩
          rw [List.mem_singleton.mp h3]
          have := hl z2 h2
          omega
        · rcases List.mem_append.mp h2 with h2 | h2
          · have := hl z2 h2
            omega
          · rw [List.mem_singleton.mp h2]
            exact Int.le_refl _
      · obtain ⟨rfl, zs, last, y4, ht, hz, hp, hl, hlast, rfl⟩ := hW
        rw [List.take_length] at ht
        refine ⟨s3, fun j hj => ?_, _, _, _, _, rfl⟩
        rcases Nat.lt_or_eq_of_le (Nat.le_of_lt_succ hj) with h | h
        · exact hg j h
        · rw [h, er, ht]
          exact link_of hz hp
    · obtain ⟨s2, hg, _⟩ := hW
      have h1 := q _ (sZ.trans s2)
      unfold siteL at h1
      have h2 : (List.range xs.length).all (rowB H xs) = true := List.all_eq_true.mpr fun j hj => hg j (List.mem_range.mp hj)
      rw [decide_eq_true d2, decide_eq_true c2, h2] at h1
      exact h1
def sp__law_checked (K : PySem.W.Frag) : Sp := fun vs H Q _ => ∃ x t, vs = [x] ∧ Ok2 H x ∧ Shw K H x t ∧ ∀ H', Same H H' → Q (.bl true) H'
theorem ok__law_checked (T : Top K mg)
    (G_is_site : FnOk P w K mg base CX0 5 T.a_is_site T.d_is_site ["value"] (sp_is_site K))
    (G__law_is_net : FnOk P w K mg base CX0 1 T.a__law_is_net T.d__law_is_net ["_law_value"] (sp__law_is_net K)) :
    FnG P w K mg base CX0 6 T.a__law_checked T.d__law_checked ["_law_value"] (sp__law_checked K) := by
  refine Fun_okG T.F__law_checked sc__law_checked (fun vs H Q E h => ?_) (fun cdv A outer s H vs Q E hG hr h => ?_)
  · obtain ⟨x, t, rfl, _⟩ := h
    rfl
  · obtain ⟨x, t, rfl, hk, hs, q⟩ := h
    have nd := sc__law_checked.nd
    have hu := hu_of hr
    have hU := units_of hr
    have hu64 := u64_of hr
    refine ⟨_, (pss_cons (ps_par (i := 1) (j := 2) rfl nd rfl rfl (by decide) rfl rfl (pa_cons (pe_callB (call_showA hG hU) (by rfl) T.n_repr (by decide +kernel) (pa_cons (pv 0) pa_nil)) (pa_cons (pe_call G_is_site (hr.mono (by decide)) (by rfl) T.g_is_site T.F_is_site.kp T.b_is_site .nil pass0 (pa_cons (pv 0) pa_nil)) pa_nil)) (by rfl))
      (pss_one (ps_ret (pe_and (pe_callB call_isi (by rfl) T.n_isinstance (by decide +kernel) (pa_cons (pv 2) (pa_cons (pe_bltn (v := .ty "bool") (by rfl) T.n_bool (by decide +kernel) rfl) pa_nil))) (pe_and (pe_cmpR op_eq (pv 2) (pe_call G__law_is_net (hr.mono (by decide)) (by rfl) T.g__law_is_net T.F__law_is_net.kp T.b__law_is_net .nil pass0 (pa_cons (pv 0) pa_nil)) (nomark _)) (pe_one (pe_cmpR op_eq (pe_callB (call_showA hG hU) (by rfl) T.n_repr (by decide +kernel) (pa_cons (pv 0) pa_nil)) (pv 1) (nomark _)))))))), ?_⟩
    refine ⟨x, rfl, x, t, rfl, hs, x, rfl, x, rfl, hk, fun H1 s1 => ⟨_, _, rfl, ?_⟩⟩
    have kb : Kn H1 (.bl (siteB H x)) := trivial
    refine ⟨_, rfl, _, _, _, _, _, rfl, .ty _, kb.ty, kit_ty (kit_bool H1 kb), _, rfl, ?_⟩
    show if true = true then _ else _
    refine iteT ⟨_, rfl, x, rfl, x, rfl, ok2_same s1 hk, fun H2 s2 => ⟨rfl, _, rfl, ?_⟩⟩
    rw [siteB_same s1 hk, decide_eq_true rfl]
    have s3 := s1.trans s2
    refine iteT ⟨x, rfl, x, t, rfl, hs.same s3, _, rfl, rfl, ?_⟩
    show Q (.bl (decide (V.str t = V.str t))) _
    rw [decide_eq_true rfl]
    exact q _ s3
def sp__law_bad_net (K : PySem.W.Frag) : Sp := fun vs H Q _ => ∃ (p L : Addr) (as : List Addr) (ts : List (List Int)) (n : Nat), vs = [.ref p, .ref L] ∧ Wb K p L as ts n [] [] [] H ∧ n ≤ 900000 ∧ 1 ≤ as.length ∧ as.length ≤ 12 ∧ (∀ t ∈ ts, t.length ≤ 12 ∧ Pgs t) ∧
  ∀ H' x, But p H H' → Pl H' p (n + 10) → Js K H' x → Q x H'
theorem ok__law_bad_net (T : Top K mg)
    (G__law_draw : FnOk P w K mg base CX0 1 T.a__law_draw T.d__law_draw ["_law_source_here", "_law_count"] (sp__law_draw K)) :
    FnOk P w K mg base CX0 2 T.a__law_bad_net T.d__law_bad_net ["_law_source_here", "_law_net_here"] (sp__law_bad_net K) := by
  refine T.F__law_bad_net.ok sc__law_bad_net (fun vs H Q E h => ?_) (fun cdv A outer s H vs Q E hr h => ?_)
  · obtain ⟨p, L, as, ts, n, rfl, _⟩ := h
    rfl
  · obtain ⟨p, L, as, ts, n, rfl, W, hn, n1, n2, ht, q⟩ := h
    have nd := sc__law_bad_net.nd
    have hu := hu_of hr
    have hU := units_of hr
    have hu64 := u64_of hr
    refine ⟨_, (pss_cons (ps_par (i := 2) (j := 3) rfl nd rfl rfl (by decide) rfl rfl (pa_cons (pe_call G__law_draw (hr.mono (by decide)) (by rfl) T.g__law_draw T.F__law_draw.kp T.b__law_draw .nil pass0 (pa_cons (pv 0) (pa_cons (pe_callB call_len_seq (by rfl) T.n_len (by decide +kernel) (pa_cons (pv 1) pa_nil)) pa_nil))) (pa_cons (pe_callB call_len_seq (by rfl) T.n_len (by decide +kernel) (pa_cons (pv 1) pa_nil)) pa_nil)) (by rfl))
      (pss_cons (ps_set (i := 4) nd rfl (Or.inl rfl) (pe_lst (pa_cons (pv 3) (pa_cons (pe_op op_add (pv 3) pe_int) (pa_cons (pe_un un_neg pe_int) (pa_cons (pe_un un_neg pe_int) (pa_cons (pe_op op_sub pe_int (pv 3)) (pa_cons (pv 2) (pa_cons pe_bl (pa_cons pe_bl (pa_cons pe_non (pa_cons pe_str (pa_cons (pe_lst (pa_cons pe_int pa_nil)) (pa_cons (pe_tup (pa_cons pe_int pa_nil)) (pa_cons (pe_op op_pow pe_int pe_int) (pa_cons pe_int pa_nil))))))))))))))))
      (pss_cons (ps_set (i := 4) nd rfl (Or.inl rfl) (pe_ix ix_list (pv 4) (pe_call G__law_draw (hr.mono (by decide)) (by rfl) T.g__law_draw T.F__law_draw.kp T.b__law_draw .nil pass0 (pa_cons (pv 0) (pa_cons pe_int pa_nil))) (fun _ _ => rfl)))
      (pss_cons (ps_set (i := 5) nd rfl (Or.inl rfl) (pe_call G__law_draw (hr.mono (by decide)) (by rfl) T.g__law_draw T.F__law_draw.kp T.b__law_draw .nil pass0 (pa_cons (pv 0) (pa_cons (pe_op op_add (pe_callB call_len_seq (by rfl) T.n_len (by decide +kernel) (pa_cons (pe_ix ix_list (pv 1) (pv 2) (fun _ _ => rfl)) pa_nil)) pe_int) pa_nil))))
      (pss_cons (ps_set (i := 6) nd rfl (Or.inl rfl) (pe_lst (pa_cons (pe_op op_cat (pe_op op_cat (pe_slice sl_list (pe_ix ix_list (pv 1) (pv 2) (fun _ _ => rfl)) po_none (po_some (pv 5))) (pe_lst (pa_cons (pv 4) pa_nil))) (pe_slice sl_list (pe_ix ix_list (pv 1) (pv 2) (fun _ _ => rfl)) (po_some (pv 5)) po_none)) (pa_cons (pe_op op_cat (pe_op op_cat (pe_slice sl_list (pe_ix ix_list (pv 1) (pv 2) (fun _ _ => rfl)) po_none (po_some (pv 5))) (pe_lst (pa_cons (pv 4) pa_nil))) (pe_slice sl_list (pe_ix ix_list (pv 1) (pv 2) (fun _ _ => rfl)) (po_some (pe_op op_add (pv 5) pe_int)) po_none)) (pa_cons (pe_revL (pe_ix ix_list (pv 1) (pv 2) (fun _ _ => rfl))) pa_nil)))))
      (pss_cons (ps_set (i := 6) nd rfl (Or.inl rfl) (pe_op op_cat (pv 6) (pe_lst (pa_cons (pe_callTy call_tuple_of (by rfl) T.n_tuple (by decide +kernel) (pa_cons (pe_ix ix_list (pv 1) (pv 2) (fun _ _ => rfl)) pa_nil)) (pa_cons pe_non (pa_cons pe_int (pa_cons pe_str (pa_cons pe_dnewK (pa_cons (pe_op op_rep (pe_ix ix_list (pv 1) (pv 2) (fun _ _ => rfl)) pe_int) (pa_cons (pe_lst (pa_cons (pe_ix ix_list (pv 1) (pv 2) (fun _ _ => rfl)) pa_nil)) (pa_cons (pe_op op_rep (pe_op op_cat (pe_ix ix_list (pv 1) (pv 2) (fun _ _ => rfl)) (pe_lst (pa_cons pe_int pa_nil))) pe_int) pa_nil)))))))))))
      (pss_cons (ps_set (i := 7) nd rfl (Or.inl rfl) (pe_ix ix_list (pv 6) (pe_ix ix_list (pe_lst (pa_cons pe_int (pa_cons pe_int (pa_cons (pe_call G__law_draw (hr.mono (by decide)) (by rfl) T.g__law_draw T.F__law_draw.kp T.b__law_draw .nil pass0 (pa_cons (pv 0) (pa_cons pe_int pa_nil))) pa_nil)))) (pe_call G__law_draw (hr.mono (by decide)) (by rfl) T.g__law_draw T.F__law_draw.kp T.b__law_draw .nil pass0 (pa_cons (pv 0) (pa_cons pe_int pa_nil))) (fun _ _ => rfl)) (fun _ _ => rfl)))
      (pss_cons (ps_set (i := 8) nd rfl (Or.inl rfl) (pe_lst (pa_cons (pe_op op_cat (pe_op op_cat (pe_slice sl_list (pv 1) po_none (po_some (pv 2))) (pe_lst (pa_cons (pv 7) pa_nil))) (pe_slice sl_list (pv 1) (po_some (pe_op op_add (pv 2) pe_int)) po_none)) (pa_cons (pe_op op_cat (pv 1) (pe_lst (pa_cons (pv 7) pa_nil))) (pa_cons (pe_lst pa_nil) (pa_cons (pe_callTy call_tuple_of (by rfl) T.n_tuple (by decide +kernel) (pa_cons (pv 1) pa_nil)) (pa_cons pe_non (pa_cons pe_int (pa_cons pe_str (pa_cons pe_dnewK (pa_cons pe_bl pa_nil)))))))))))
      (pss_cons (ps_set (i := 8) nd rfl (Or.inl rfl) (pe_op op_cat (pv 8) (pe_lst (pa_cons (pe_op op_cat (pv 1) (pe_op op_rep (pe_lst (pa_cons (pe_lst pa_nil) pa_nil)) (pe_op op_sub pe_int (pv 3)))) (pa_cons (pe_op op_cat (pv 1) (pe_op op_rep (pe_lst (pa_cons (pe_lst (pa_cons pe_int pa_nil)) pa_nil)) pe_int)) (pa_cons (pe_lst (pa_cons (pv 1) pa_nil)) pa_nil))))))
      (pss_one (ps_ret (pe_ix ix_list (pv 8) (pe_ix ix_list (pe_lst (pa_cons pe_int (pa_cons pe_int (pa_cons pe_int (pa_cons (pe_call G__law_draw (hr.mono (by decide)) (by rfl) T.g__law_draw T.F__law_draw.kp T.b__law_draw .nil pass0 (pa_cons (pv 0) (pa_cons pe_int pa_nil))) pa_nil))))) (pe_call G__law_draw (hr.mono (by decide)) (by rfl) T.g__law_draw T.F__law_draw.kp T.b__law_draw .nil pass0 (pa_cons (pv 0) (pa_cons pe_int pa_nil))) (fun _ _ => rfl)) (fun _ _ => rfl))))))))))))), ?_⟩
    have sz : ∀ m, m ≤ 2000 → m ≤ sizeLine := fun m h => Nat.le_trans h (by decide)
    have hal : (as.map V.ref).length = as.length := List.length_map _
    -- place, number
    refine ⟨.ref p, rfl, .ref L, rfl, L, _, rfl, .inl (.inl (.inl W.net)), p, _, n, rfl, W.pl, by omega, (by rw [hal]; omega), (by rw [hal]; omega), fun H1 at1 b1 P1 a0 a1 => ?_⟩
    have W1 := W.step b1 P1
    refine ⟨.ref L, rfl, L, _, rfl, .inl (.inl (.inl W1.net)), _, _, rfl, ?_⟩
    rw [hal] at a1 ⊢
    obtain ⟨j, rfl⟩ := Int.eq_ofNat_of_zero_le a0
    have hj : j < as.length := by omega
    obtain ⟨r, hr⟩ : ∃ r, as[j]? = some r := ⟨_, List.getElem?_eq_getElem hj⟩
    obtain ⟨t, htj, _⟩ := W.rows.at hr
    obtain ⟨tl, tp⟩ := ht t (List.mem_of_getElem? htj)
    have er : ∀ {m is gs js} {G : Hp}, Wb K p L as ts m is gs js G → G r = some (.lst (t.map V.int)) := fun {m is gs js G} w => by
      obtain ⟨t2, h2, e2⟩ := w.rows.at hr
      rw [htj] at h2
      cases h2
      exact e2
    have ar : atI (as.map V.ref) (j : Int) = some (.ref r) := atI_nat (by rw [List.getElem?_map, hr]; rfl)
    clear hal a0 a1
    -- links
    have bb1 := b1
    refine ⟨_, rfl, _, rfl, _, _, rfl, rfl, 1, rfl, 2, rfl, _, rfl, _, _, rfl, rfl, _, rfl, (by show 1 ≤ sizeLine; decide), fun z fz => ?_⟩
    have nz := ne_of_pl W1.pl fz
    have s2 := same_new (o := .lst [.int 0]) fz
    have ez : upd H1 z (.lst [.int 0]) z = some (.lst [.int 0]) := upd_same
    have bb2 := bb1.trans (.of_same s2)
    have W2 := W1.new (o := .lst [.int 0]) fz
    generalize upd H1 z (.lst [.int 0]) = H2 at s2 ez W2 bb2 ⊢
    refine ⟨(by show 1 ≤ sizeLine; decide), fun u fu => ?_⟩
    have nu := ne_of_pl W2.pl fu
    have s3 := same_new (o := .tup [.int 0]) fu
    have eu : upd H2 u (.tup [.int 0]) u = some (.tup [.int 0]) := upd_same
    have bb3 := bb2.trans (.of_same s3)
    have W3 := W2.new (o := .tup [.int 0]) fu
    generalize upd H2 u (.tup [.int 0]) = H3 at s3 eu W3 bb3 ⊢
    refine ⟨10, 30, rfl, rfl, pow_ok 30 (by decide) (by decide), (by show 14 ≤ sizeLine; decide), fun O fO => ?_⟩
    have nO := ne_of_pl W3.pl fO
    have s4 := same_new (o := .lst [.int as.length, .int (as.length + 1), .int (-1), .int (-2), .int (0 - as.length), .int j, .bl true, .bl false, .non, .str "0", .ref z, .ref u, .int (10 ^ (30 : Int).toNat), .int 0]) fO
    have eO : upd H3 O (.lst [.int as.length, .int (as.length + 1), .int (-1), .int (-2), .int (0 - as.length), .int j, .bl true, .bl false, .non, .str "0", .ref z, .ref u, .int (10 ^ (30 : Int).toNat), .int 0]) O = some (.lst [.int as.length, .int (as.length + 1), .int (-1), .int (-2), .int (0 - as.length), .int j, .bl true, .bl false, .non, .str "0", .ref z, .ref u, .int (10 ^ (30 : Int).toNat), .int 0]) := upd_same
    have bb4 := bb3.trans (.of_same s4)
    have W4 := W3.new (o := .lst [.int as.length, .int (as.length + 1), .int (-1), .int (-2), .int (0 - as.length), .int j, .bl true, .bl false, .non, .str "0", .ref z, .ref u, .int (10 ^ (30 : Int).toNat), .int 0]) fO
    generalize upd H3 O (.lst [.int as.length, .int (as.length + 1), .int (-1), .int (-2), .int (0 - as.length), .int j, .bl true, .bl false, .non, .str "0", .ref z, .ref u, .int (10 ^ (30 : Int).toNat), .int 0]) = H4 at s4 eO W4 bb4 ⊢
    have gi0 : ∀ x ∈ ([.int as.length, .int (as.length + 1), .int (-1), .int (-2), .int (0 - as.length), .int j, .bl true, .bl false, .non, .str "0", .ref z, .ref u, .int (10 ^ (30 : Int).toNat), .int 0] : List V), ∀ G, But p H4 G → Gi K G x := by
      intro x hx G b
      rcases List.mem_cons.mp hx with rfl | hx
      · exact gi_int (by omega)
      rcases List.mem_cons.mp hx with rfl | hx
      · exact gi_int (by omega)
      rcases List.mem_cons.mp hx with rfl | hx
      · exact gi_int (by decide)
      rcases List.mem_cons.mp hx with rfl | hx
      · exact gi_int (by decide)
      rcases List.mem_cons.mp hx with rfl | hx
      · exact gi_int (by omega)
      rcases List.mem_cons.mp hx with rfl | hx
      · exact gi_int (by omega)
      rcases List.mem_cons.mp hx with rfl | hx
      · exact gi_bl _
      rcases List.mem_cons.mp hx with rfl | hx
      · exact gi_bl _
      rcases List.mem_cons.mp hx with rfl | hx
      · exact gi_non
      rcases List.mem_cons.mp hx with rfl | hx
      · exact gi_str (by simp only [PyData.canLay0]; decide +kernel) (by simp only [PyData.leavesShort]; decide +kernel) (by decide +kernel)
      rcases List.mem_cons.mp hx with rfl | hx
      · exact gi_nums (l := [0]) (b _ _ nz (s4 _ _ (s3 _ _ ez))) (fun z hz => by rw [List.mem_singleton.mp hz]; decide) (by decide)
      rcases List.mem_cons.mp hx with rfl | hx
      · exact gi_tup0 (b _ _ nu (s4 _ _ eu))
      rcases List.mem_cons.mp hx with rfl | hx
      · rw [pw30]
        exact gi_int (by decide)
      · rw [List.mem_singleton.mp hx]
        exact gi_int (by decide)
    have hl14 : ([.int as.length, .int (as.length + 1), .int (-1), .int (-2), .int (0 - as.length), .int j, .bl true, .bl false, .non, .str "0", .ref z, .ref u, .int (10 ^ (30 : Int).toNat), .int 0] : List V).length = 14 := rfl
    generalize ([.int as.length, .int (as.length + 1), .int (-1), .int (-2), .int (0 - as.length), .int j, .bl true, .bl false, .non, .str "0", .ref z, .ref u, .int (10 ^ (30 : Int).toNat), .int 0] : List V) = od at gi0 eO hl14 ⊢
    refine ⟨.ref O, rfl, .ref p, rfl, p, 14, _, rfl, W4.pl, by omega, by decide, by decide, fun H5 v b5 P5 v0 v1 => ?_⟩
    have W5 := W4.step b5 P5
    have bb5 := bb4.trans b5
    obtain ⟨x, hx, hxm⟩ := at_ex (xs := od) v0 (by omega)
    refine ⟨O, od, v, x, rfl, rfl, .inl (.inl (b5 _ _ nO eO)), hx, ?_⟩
    have W5 := W5.addI (x := x) fun G b => gi0 x hxm G (b5.trans b)
    clear gi0 hl14 eO hx hxm v0 v1 ez eu nz nu nO s2 s3 s4 fz fu fO
    refine ⟨.ref p, rfl, .ref L, rfl, _, rfl, L, _, _, .ref r, rfl, rfl, .inl (.inl W5.net), ar, r, _, rfl, .inl (.inl (.inl (er W5))), _, _, rfl, rfl, p, _, _, rfl, W5.pl, by omega, (by omega), (by rw [List.length_map]; omega), fun H6 sp1 b6 P6 k0 k1 => ?_⟩
    have W6 := W5.step b6 P6
    have bb6 := bb5.trans b6
    rw [List.length_map] at k1
    obtain ⟨k, rfl⟩ := Int.eq_ofNat_of_zero_le k0
    have hk : k ≤ t.length := by omega
    clear k0 k1
    refine ⟨.ref L, rfl, _, rfl, L, _, _, .ref r, rfl, rfl, .inl (.inl W6.net), ar, _, rfl, _, rfl, r, _, rfl, .inl (.inl (er W6)), fun c1 f1 => ?_⟩
    rw [cut_to, ← List.map_take]
    have nc1 := ne_of_pl W6.pl f1
    have s7 := same_new (o := .lst ((t.take k).map V.int)) f1
    have ec1 : upd H6 c1 (.lst ((t.take k).map V.int)) c1 = some (.lst ((t.take k).map V.int)) := upd_same
    have bb7 := bb6.trans (.of_same s7)
    have W7 := W6.new (o := .lst ((t.take k).map V.int)) f1
    generalize upd H6 c1 (.lst ((t.take k).map V.int)) = H7 at s7 ec1 W7 bb7 ⊢
    refine ⟨_, rfl, (by show 1 ≤ sizeLine; decide), fun c2 f2 => ?_⟩
    have nc2 := ne_of_pl W7.pl f2
    have s8 := same_new (o := .lst [x]) f2
    have ec2 : upd H7 c2 (.lst [x]) c2 = some (.lst [x]) := upd_same
    have bb8 := bb7.trans (.of_same s8)
    have W8 := W7.new (o := .lst [x]) f2
    generalize upd H7 c2 (.lst [x]) = H8 at s8 ec2 W8 bb8 ⊢
    refine ⟨c1, c2, _, _, rfl, rfl, (s8 _ _ ec1), ec2, (sz _ (by simp only [List.length_append, List.length_map, List.length_take, List.length_drop, List.length_cons, List.length_nil]; omega)), fun c3 f3 => ?_⟩
    have nc3 := ne_of_pl W8.pl f3
    have s9 := same_new (o := .lst ((t.take k).map V.int ++ [x])) f3
    have ec3 : upd H8 c3 (.lst ((t.take k).map V.int ++ [x])) c3 = some (.lst ((t.take k).map V.int ++ [x])) := upd_same
    have bb9 := bb8.trans (.of_same s9)
    have W9 := W8.new (o := .lst ((t.take k).map V.int ++ [x])) f3
    generalize upd H8 c3 (.lst ((t.take k).map V.int ++ [x])) = H9 at s9 ec3 W9 bb9 ⊢
    refine ⟨.ref L, rfl, _, rfl, L, _, _, .ref r, rfl, rfl, .inl (.inl W9.net), ar, _, rfl, _, rfl, r, _, rfl, .inl (.inl (er W9)), fun c4 f4 => ?_⟩
    rw [cut_from, ← List.map_drop]
    have nc4 := ne_of_pl W9.pl f4
    have s10 := same_new (o := .lst ((t.drop k).map V.int)) f4
    have ec4 : upd H9 c4 (.lst ((t.drop k).map V.int)) c4 = some (.lst ((t.drop k).map V.int)) := upd_same
    have bb10 := bb9.trans (.of_same s10)
    have W10 := W9.new (o := .lst ((t.drop k).map V.int)) f4
    generalize upd H9 c4 (.lst ((t.drop k).map V.int)) = H10 at s10 ec4 W10 bb10 ⊢
    refine ⟨c3, c4, _, _, rfl, rfl, (s10 _ _ ec3), ec4, (sz _ (by simp only [List.length_append, List.length_map, List.length_take, List.length_drop, List.length_cons, List.length_nil]; omega)), fun x1 fx1 => ?_⟩
    have nx1 := ne_of_pl W10.pl fx1
    have s11 := same_new (o := .lst ((t.take k).map V.int ++ [x] ++ (t.drop k).map V.int)) fx1
    have ex1 : upd H10 x1 (.lst ((t.take k).map V.int ++ [x] ++ (t.drop k).map V.int)) x1 = some (.lst ((t.take k).map V.int ++ [x] ++ (t.drop k).map V.int)) := upd_same
    have bb11 := bb10.trans (.of_same s11)
    have W11 := W10.new (o := .lst ((t.take k).map V.int ++ [x] ++ (t.drop k).map V.int)) fx1
    generalize upd H10 x1 (.lst ((t.take k).map V.int ++ [x] ++ (t.drop k).map V.int)) = H11 at s11 ex1 W11 bb11 ⊢
    have git : ∀ {w : List Int}, (∀ z ∈ w, z ∈ t) → ∀ G, ∀ y ∈ w.map V.int, Gi K G y := fun {w} hw G y hy => by
      obtain ⟨z, hz, rfl⟩ := List.mem_map.mp hy
      exact gi_int (by have := tp z (hw z hz); omega)
    have W11 := W11.addG (x := .ref x1) fun G b => gr_items (b _ _ nx1 ex1) (by simp only [List.length_append, List.length_map, List.length_take, List.length_drop, List.length_cons, List.length_nil]; omega) fun y hy => by
      rcases List.mem_append.mp hy with hy | hy
      · rcases List.mem_append.mp hy with hy | hy
        · exact git (fun z hz => List.mem_of_mem_take hz) G y hy
        · rw [List.mem_singleton.mp hy]
          exact W11.hi x List.mem_cons_self G b
      · exact git (fun z hz => List.mem_of_mem_drop hz) G y hy
    clear ec1 ec2 ec3 ec4 nc1 nc2 nc3 nc4 s7 s8 s9 s10 f1 f2 f3 f4 fx1
    -- x2
    refine ⟨.ref L, rfl, _, rfl, L, _, _, .ref r, rfl, rfl, .inl (.inl W11.net), ar, _, rfl, _, rfl, r, _, rfl, .inl (.inl (er W11)), fun d1 f1 => ?_⟩
    rw [cut_to, ← List.map_take]
    have nd1 := ne_of_pl W11.pl f1
    have s12 := same_new (o := .lst ((t.take k).map V.int)) f1
    have ed1 : upd H11 d1 (.lst ((t.take k).map V.int)) d1 = some (.lst ((t.take k).map V.int)) := upd_same
    have bb12 := bb11.trans (.of_same s12)
    have W12 := W11.new (o := .lst ((t.take k).map V.int)) f1
    generalize upd H11 d1 (.lst ((t.take k).map V.int)) = H12 at s12 ed1 W12 bb12 ⊢
    refine ⟨_, rfl, (by show 1 ≤ sizeLine; decide), fun d2 f2 => ?_⟩
    have nd2 := ne_of_pl W12.pl f2
    have s13 := same_new (o := .lst [x]) f2
    have ed2 : upd H12 d2 (.lst [x]) d2 = some (.lst [x]) := upd_same
    have bb13 := bb12.trans (.of_same s13)
    have W13 := W12.new (o := .lst [x]) f2
    generalize upd H12 d2 (.lst [x]) = H13 at s13 ed2 W13 bb13 ⊢
    refine ⟨d1, d2, _, _, rfl, rfl, (s13 _ _ ed1), ed2, (sz _ (by simp only [List.length_append, List.length_map, List.length_take, List.length_drop, List.length_cons, List.length_nil]; omega)), fun d3 f3 => ?_⟩
    have nd3 := ne_of_pl W13.pl f3
    have s14 := same_new (o := .lst ((t.take k).map V.int ++ [x])) f3
    have ed3 : upd H13 d3 (.lst ((t.take k).map V.int ++ [x])) d3 = some (.lst ((t.take k).map V.int ++ [x])) := upd_same
    have bb14 := bb13.trans (.of_same s14)
    have W14 := W13.new (o := .lst ((t.take k).map V.int ++ [x])) f3
    generalize upd H13 d3 (.lst ((t.take k).map V.int ++ [x])) = H14 at s14 ed3 W14 bb14 ⊢
    have ek : ((k : Nat) : Int) + 1 = ((k + 1 : Nat) : Int) := by omega
    refine ⟨.ref L, rfl, _, rfl, L, _, _, .ref r, rfl, rfl, .inl (.inl W14.net), ar, _, rfl, _, _, rfl, rfl, _, rfl, r, _, rfl, .inl (.inl (er W14)), fun d4 f4 => ?_⟩
    rw [ek, cut_from, ← List.map_drop]
    have nd4 := ne_of_pl W14.pl f4
    have s15 := same_new (o := .lst ((t.drop (k + 1)).map V.int)) f4
    have ed4 : upd H14 d4 (.lst ((t.drop (k + 1)).map V.int)) d4 = some (.lst ((t.drop (k + 1)).map V.int)) := upd_same
    have bb15 := bb14.trans (.of_same s15)
    have W15 := W14.new (o := .lst ((t.drop (k + 1)).map V.int)) f4
    generalize upd H14 d4 (.lst ((t.drop (k + 1)).map V.int)) = H15 at s15 ed4 W15 bb15 ⊢
    refine ⟨d3, d4, _, _, rfl, rfl, (s15 _ _ ed3), ed4, (sz _ (by simp only [List.length_append, List.length_map, List.length_take, List.length_drop, List.length_cons, List.length_nil]; omega)), fun x2 fx2 => ?_⟩
    have nx2 := ne_of_pl W15.pl fx2
    have s16 := same_new (o := .lst ((t.take k).map V.int ++ [x] ++ (t.drop (k + 1)).map V.int)) fx2
    have ex2 : upd H15 x2 (.lst ((t.take k).map V.int ++ [x] ++ (t.drop (k + 1)).map V.int)) x2 = some (.lst ((t.take k).map V.int ++ [x] ++ (t.drop (k + 1)).map V.int)) := upd_same
    have bb16 := bb15.trans (.of_same s16)
    have W16 := W15.new (o := .lst ((t.take k).map V.int ++ [x] ++ (t.drop (k + 1)).map V.int)) fx2
    generalize upd H15 x2 (.lst ((t.take k).map V.int ++ [x] ++ (t.drop (k + 1)).map V.int)) = H16 at s16 ex2 W16 bb16 ⊢
    have W16 := W16.addG (x := .ref x2) fun G b => gr_items (b _ _ nx2 ex2) (by simp only [List.length_append, List.length_map, List.length_take, List.length_drop, List.length_cons, List.length_nil]; omega) fun y hy => by
      rcases List.mem_append.mp hy with hy | hy
      · rcases List.mem_append.mp hy with hy | hy
        · exact git (fun z hz => List.mem_of_mem_take hz) G y hy
        · rw [List.mem_singleton.mp hy]
          exact W16.hi x List.mem_cons_self G b
      · exact git (fun z hz => List.mem_of_mem_drop hz) G y hy
    clear ed1 ed2 ed3 ed4 nd1 nd2 nd3 nd4 f1 f2 f3 f4 fx2 s12 s13 s14 s15 s16 nx1 ex1 nx2 ex2
    -- x3, the first three
    refine ⟨.ref L, rfl, _, rfl, L, _, _, .ref r, rfl, rfl, .inl (.inl W16.net), ar, r, _, rfl, .inl (.inl (er W16)), fun x3 fx3 => ?_⟩
    rw [← List.map_reverse]
    have nx3 := ne_of_pl W16.pl fx3
    have s17 := same_new (o := .lst (t.reverse.map V.int)) fx3
    have ex3 : upd H16 x3 (.lst (t.reverse.map V.int)) x3 = some (.lst (t.reverse.map V.int)) := upd_same
    have bb17 := bb16.trans (.of_same s17)
    have W17 := W16.new (o := .lst (t.reverse.map V.int)) fx3
    generalize upd H16 x3 (.lst (t.reverse.map V.int)) = H17 at s17 ex3 W17 bb17 ⊢
    have W17 := W17.addG (x := .ref x3) fun G b => gr_nums (b _ _ nx3 ex3) (fun z hz => by have := tp z (List.mem_reverse.mp hz); omega) (by rw [List.length_reverse]; omega)
    refine ⟨(by show 3 ≤ sizeLine; decide), fun M1 fM => ?_⟩
    have nM1 := ne_of_pl W17.pl fM
    have s18 := same_new (o := .lst [.ref x1, .ref x2, .ref x3]) fM
    have eM1 : upd H17 M1 (.lst [.ref x1, .ref x2, .ref x3]) M1 = some (.lst [.ref x1, .ref x2, .ref x3]) := upd_same
    have bb18 := bb17.trans (.of_same s18)
    have W18 := W17.new (o := .lst [.ref x1, .ref x2, .ref x3]) fM
    generalize upd H17 M1 (.lst [.ref x1, .ref x2, .ref x3]) = H18 at s18 eM1 W18 bb18 ⊢
    clear nx3 ex3 fx3 fM
    -- eight more
    refine ⟨_, rfl, .ref L, rfl, _, rfl, L, _, _, .ref r, rfl, rfl, .inl (.inl W18.net), ar, r, _, rfl, .inl ⟨.inl (.inl (er W18)), fun y1 f1 => ?_⟩⟩
    have ny1 := ne_of_pl W18.pl f1
    have s19 := same_new (o := .tup (t.map V.int)) f1
    have ey1 : upd H18 y1 (.tup (t.map V.int)) y1 = some (.tup (t.map V.int)) := upd_same
    have bb19 := bb18.trans (.of_same s19)
    have W19 := W18.new (o := .tup (t.map V.int)) f1
    generalize upd H18 y1 (.tup (t.map V.int)) = H19 at s19 ey1 W19 bb19 ⊢
    have W19 := W19.addG (x := .ref y1) fun G b => gr_tup (b _ _ ny1 ey1) (fun z hz => by have := tp z hz; omega) (by omega)
    refine fun y2 f2 => ?_
    have ny2 := ne_of_pl W19.pl f2
    have s20 := same_new (o := .dK []) f2
    have ey2 : upd H19 y2 (.dK []) y2 = some (.dK []) := upd_same
    have bb20 := bb19.trans (.of_same s20)
    have W20 := W19.new (o := .dK []) f2
    generalize upd H19 y2 (.dK []) = H20 at s20 ey2 W20 bb20 ⊢
    have W20 := W20.addG (x := .ref y2) fun G b => gr_dict (b _ _ ny2 ey2)
    refine ⟨.ref L, rfl, _, rfl, L, _, _, .ref r, rfl, rfl, .inl (.inl W20.net), ar, r, 2, _, rfl, rfl, er W20, by decide, by decide, sz _ (by rw [List.length_map]; show t.length * 2 ≤ 2000; omega), fun y3 f3 => ?_⟩
    have e2x : (List.replicate (Int.toNat 2) (t.map V.int)).flatten = (List.replicate (Int.toNat 2) t).flatten.map V.int := by
      rw [List.map_flatten, List.map_replicate]
    rw [e2x]
    have ny3 := ne_of_pl W20.pl f3
    have s21 := same_new (o := .lst ((List.replicate (Int.toNat 2) t).flatten.map V.int)) f3
    have ey3 : upd H20 y3 (.lst ((List.replicate (Int.toNat 2) t).flatten.map V.int)) y3 = some (.lst ((List.replicate (Int.toNat 2) t).flatten.map V.int)) := upd_same
    have bb21 := bb20.trans (.of_same s21)
    have W21 := W20.new (o := .lst ((List.replicate (Int.toNat 2) t).flatten.map V.int)) f3
    generalize upd H20 y3 (.lst ((List.replicate (Int.toNat 2) t).flatten.map V.int)) = H21 at s21 ey3 W21 bb21 ⊢
    have W21 := W21.addG (x := .ref y3) fun G b => gr_nums (b _ _ ny3 ey3) (fun z hz => by have := tp z (mem_rep hz); omega) (by rw [len_rep]; show 2 * t.length ≤ 500; omega)
    refine ⟨.ref L, rfl, _, rfl, L, _, _, .ref r, rfl, rfl, .inl (.inl W21.net), ar, (by show 1 ≤ sizeLine; decide), fun y4 f4 => ?_⟩
    have ny4 := ne_of_pl W21.pl f4
    have s22 := same_new (o := .lst [.ref r]) f4
    have ey4 : upd H21 y4 (.lst [.ref r]) y4 = some (.lst [.ref r]) := upd_same
    have bb22 := bb21.trans (.of_same s22)
    have W22 := W21.new (o := .lst [.ref r]) f4
    generalize upd H21 y4 (.lst [.ref r]) = H22 at s22 ey4 W22 bb22 ⊢
    have W22 := W22.addG (x := .ref y4) fun G b => gr_items (b _ _ ny4 ey4) (by show 1 ≤ 23; decide) fun y hy => by
      rw [List.mem_singleton.mp hy]
      exact gi_nums (b _ _ (W22.nap r (List.mem_of_getElem? hr)) (er W22)) (fun z hz => by have := tp z hz; omega) (by omega)
    refine ⟨.ref L, rfl, _, rfl, L, _, _, .ref r, rfl, rfl, .inl (.inl W22.net), ar, (by show 1 ≤ sizeLine; decide), fun y5 f5 => ?_⟩
    have ny5 := ne_of_pl W22.pl f5
    have s23 := same_new (o := .lst [.int 0]) f5
    have ey5 : upd H22 y5 (.lst [.int 0]) y5 = some (.lst [.int 0]) := upd_same
    have bb23 := bb22.trans (.of_same s23)
    have W23 := W22.new (o := .lst [.int 0]) f5
    generalize upd H22 y5 (.lst [.int 0]) = H23 at s23 ey5 W23 bb23 ⊢
    refine ⟨r, y5, _, _, rfl, rfl, er W23, ey5, (sz _ (by simp only [List.length_append, List.length_map, List.length_take, List.length_drop, List.length_cons, List.length_nil]; omega)), fun y6 f6 => ?_⟩
    have ny6 := ne_of_pl W23.pl f6
    have s24 := same_new (o := .lst (t.map V.int ++ [.int 0])) f6
    have ey6 : upd H23 y6 (.lst (t.map V.int ++ [.int 0])) y6 = some (.lst (t.map V.int ++ [.int 0])) := upd_same
    have bb24 := bb23.trans (.of_same s24)
    have W24 := W23.new (o := .lst (t.map V.int ++ [.int 0])) f6
    generalize upd H23 y6 (.lst (t.map V.int ++ [.int 0])) = H24 at s24 ey6 W24 bb24 ⊢
    refine ⟨y6, 30, _, rfl, rfl, ey6, by decide, by decide, sz _ (by rw [List.length_append, List.length_map]; show (t.length + 1) * 30 ≤ 2000; omega), fun y7 f7 => ?_⟩
    have e30 : (List.replicate (Int.toNat 30) (t.map V.int ++ [.int 0])).flatten = (List.replicate (Int.toNat 30) (t ++ [0])).flatten.map V.int := by
      rw [List.map_flatten, List.map_replicate, List.map_append]
      rfl
    rw [e30]
    have ny7 := ne_of_pl W24.pl f7
    have s25 := same_new (o := .lst ((List.replicate (Int.toNat 30) (t ++ [0])).flatten.map V.int)) f7
    have ey7 : upd H24 y7 (.lst ((List.replicate (Int.toNat 30) (t ++ [0])).flatten.map V.int)) y7 = some (.lst ((List.replicate (Int.toNat 30) (t ++ [0])).flatten.map V.int)) := upd_same
    have bb25 := bb24.trans (.of_same s25)
    have W25 := W24.new (o := .lst ((List.replicate (Int.toNat 30) (t ++ [0])).flatten.map V.int)) f7
    generalize upd H24 y7 (.lst ((List.replicate (Int.toNat 30) (t ++ [0])).flatten.map V.int)) = H25 at s25 ey7 W25 bb25 ⊢
    have W25 := W25.addG (x := .ref y7) fun G b => gr_nums (b _ _ ny7 ey7) (fun z hz => by
      rcases List.mem_append.mp (mem_rep hz) with h | h
      · have := tp z h
        omega
      · rw [List.mem_singleton.mp h]
        decide) (by rw [len_rep, List.length_append]; show 30 * (t.length + 1) ≤ 500; omega)
    refine ⟨(by show 8 ≤ sizeLine; decide), fun M2 fM2 => ?_⟩
    have nM2 := ne_of_pl W25.pl fM2
    have s26 := same_new (o := .lst [.ref y1, .non, .int 0, .str "", .ref y2, .ref y3, .ref y4, .ref y7]) fM2
    have eM2 : upd H25 M2 (.lst [.ref y1, .non, .int 0, .str "", .ref y2, .ref y3, .ref y4, .ref y7]) M2 = some (.lst [.ref y1, .non, .int 0, .str "", .ref y2, .ref y3, .ref y4, .ref y7]) := upd_same
    have bb26 := bb25.trans (.of_same s26)
    have W26 := W25.new (o := .lst [.ref y1, .non, .int 0, .str "", .ref y2, .ref y3, .ref y4, .ref y7]) fM2
    generalize upd H25 M2 (.lst [.ref y1, .non, .int 0, .str "", .ref y2, .ref y3, .ref y4, .ref y7]) = H26 at s26 eM2 W26 bb26 ⊢
    refine ⟨M1, M2, _, _, rfl, rfl, (s26 _ _ (s25 _ _ (s24 _ _ (s23 _ _ (s22 _ _ (s21 _ _ (s20 _ _ (s19 _ _ eM1)))))))), eM2, (by show 11 ≤ sizeLine; decide), fun M3 fM3 => ?_⟩
    have nM3 := ne_of_pl W26.pl fM3
    have s27 := same_new (o := .lst ([.ref x1, .ref x2, .ref x3] ++ [.ref y1, .non, .int 0, .str "", .ref y2, .ref y3, .ref y4, .ref y7])) fM3
    have eM3 : upd H26 M3 (.lst ([.ref x1, .ref x2, .ref x3] ++ [.ref y1, .non, .int 0, .str "", .ref y2, .ref y3, .ref y4, .ref y7])) M3 = some (.lst ([.ref x1, .ref x2, .ref x3] ++ [.ref y1, .non, .int 0, .str "", .ref y2, .ref y3, .ref y4, .ref y7])) := upd_same
    have bb27 := bb26.trans (.of_same s27)
    have W27 := W26.new (o := .lst ([.ref x1, .ref x2, .ref x3] ++ [.ref y1, .non, .int 0, .str "", .ref y2, .ref y3, .ref y4, .ref y7])) fM3
    generalize upd H26 M3 (.lst ([.ref x1, .ref x2, .ref x3] ++ [.ref y1, .non, .int 0, .str "", .ref y2, .ref y3, .ref y4, .ref y7])) = H27 at s27 eM3 W27 bb27 ⊢
    have g11 : ∀ y ∈ ([V.ref x1, V.ref x2, V.ref x3] ++ [V.ref y1, .non, .int 0, .str "", .ref y2, .ref y3, .ref y4, .ref y7] : List V), ∀ G, But p H27 G → Gr K G y := by
      intro y hy
      rcases List.mem_append.mp hy with hy | hy
      · rcases List.mem_cons.mp hy with rfl | hy
        · exact W27.hg _ (by simp)
        rcases List.mem_cons.mp hy with rfl | hy
        · exact W27.hg _ (by simp)
        · rw [List.mem_singleton.mp hy]
          exact W27.hg _ (by simp)
      · rcases List.mem_cons.mp hy with rfl | hy
        · exact W27.hg _ (by simp)
        rcases List.mem_cons.mp hy with rfl | hy
        · exact fun G _ => gr_gi gi_non fun a xs e => nomatch e
        rcases List.mem_cons.mp hy with rfl | hy
        · exact fun G _ => gr_gi (gi_int (by decide)) fun a xs e => nomatch e
        rcases List.mem_cons.mp hy with rfl | hy
        · exact fun G _ => gr_gi (gi_str (by simp only [PyData.canLay0]; decide +kernel) (by simp only [PyData.leavesShort]; decide +kernel) (by decide +kernel)) fun a xs e => nomatch e
        rcases List.mem_cons.mp hy with rfl | hy
        · exact W27.hg _ (by simp)
        rcases List.mem_cons.mp hy with rfl | hy
        · exact W27.hg _ (by simp)
        rcases List.mem_cons.mp hy with rfl | hy
        · exact W27.hg _ (by simp)
        · rw [List.mem_singleton.mp hy]
          exact W27.hg _ (by simp)
    have hl11 : ([V.ref x1, V.ref x2, V.ref x3] ++ [V.ref y1, .non, .int 0, .str "", .ref y2, .ref y3, .ref y4, .ref y7] : List V).length = 11 := rfl
    generalize ([V.ref x1, V.ref x2, V.ref x3] ++ [V.ref y1, .non, .int 0, .str "", .ref y2, .ref y3, .ref y4, .ref y7] : List V) = rl at g11 hl11 eM3 ⊢
    -- the odd row
    refine ⟨_, rfl, .ref p, rfl, p, 11, _, rfl, W27.pl, by omega, by decide, by decide, fun H28 i1 b28 P28 q0 q1 => ?_⟩
    have W28 := W27.step b28 P28
    have bb28 := bb27.trans b28
    refine ⟨(by show 3 ≤ sizeLine; decide), fun I fI => ?_⟩
    have nI := ne_of_pl W28.pl fI
    have s29 := same_new (o := .lst [.int 0, .int 1, .int i1]) fI
    have eI : upd H28 I (.lst [.int 0, .int 1, .int i1]) I = some (.lst [.int 0, .int 1, .int i1]) := upd_same
    have bb29 := bb28.trans (.of_same s29)
    have W29 := W28.new (o := .lst [.int 0, .int 1, .int i1]) fI
    generalize upd H28 I (.lst [.int 0, .int 1, .int i1]) = H29 at s29 eI W29 bb29 ⊢
    refine ⟨.ref p, rfl, p, 3, _, rfl, W29.pl, by omega, by decide, by decide, fun H30 i2 b30 P30 q2 q3 => ?_⟩
    have W30 := W29.step b30 P30
    have bb30 := bb29.trans b30
    obtain ⟨v1, hv1, hm1⟩ := at_ex (xs := [V.int 0, V.int 1, V.int i1]) q2 (by show i2 < 3; exact q3)
    obtain ⟨k1, rfl, k2, k3⟩ : ∃ k1 : Int, v1 = .int k1 ∧ 0 ≤ k1 ∧ k1 < 11 := by
      rcases List.mem_cons.mp hm1 with e | hm1
      · exact ⟨_, e, by decide, by decide⟩
      rcases List.mem_cons.mp hm1 with e | hm1
      · exact ⟨_, e, by decide, by decide⟩
      · exact ⟨_, List.mem_singleton.mp hm1, q0, q1⟩
    obtain ⟨y, hy, hym⟩ := at_ex (xs := rl) k2 (by omega)
    refine ⟨I, _, i2, _, rfl, rfl, .inl (.inl (b30 _ _ nI eI)), hv1, M3, _, k1, y, rfl, rfl, .inl (.inl (b30 _ _ nM3 (s29 _ _ (b28 _ _ nM3 eM3)))), hy, ?_⟩
    have gy : ∀ G, But p H30 G → Gr K G y := fun G b => g11 y hym G (((b28.trans (.of_same s29)).trans b30).trans b)
    clear g11 hl11 hv1 hm1 hy hym
    -- the site with it in a place
    have grN : ∀ {m : List Addr}, (∀ a ∈ m, a ∈ as) → ∀ G, But p H30 G → ∀ v ∈ m.map V.ref, Gr K G v := fun {m} hm G b v hv => by
      obtain ⟨a, ha, rfl⟩ := List.mem_map.mp hv
      exact W30.row ht (hm a ha) G b
    refine ⟨_, rfl, _, rfl, _, rfl, L, _, rfl, .inl (.inl W30.net), fun c1 f1 => ?_⟩
    rw [cut_to, ← List.map_take]
    have nc1 := ne_of_pl W30.pl f1
    have s31 := same_new (o := .lst ((as.take j).map V.ref)) f1
    have ec1 : upd H30 c1 (.lst ((as.take j).map V.ref)) c1 = some (.lst ((as.take j).map V.ref)) := upd_same
    have bb31 := bb30.trans (.of_same s31)
    have W31 := W30.new (o := .lst ((as.take j).map V.ref)) f1
    generalize upd H30 c1 (.lst ((as.take j).map V.ref)) = H31 at s31 ec1 W31 bb31 ⊢
    refine ⟨_, rfl, (by show 1 ≤ sizeLine; decide), fun c2 f2 => ?_⟩
    have nc2 := ne_of_pl W31.pl f2
    have s32 := same_new (o := .lst [y]) f2
    have ec2 : upd H31 c2 (.lst [y]) c2 = some (.lst [y]) := upd_same
    have bb32 := bb31.trans (.of_same s32)
    have W32 := W31.new (o := .lst [y]) f2
    generalize upd H31 c2 (.lst [y]) = H32 at s32 ec2 W32 bb32 ⊢
    refine ⟨c1, c2, _, _, rfl, rfl, (s32 _ _ ec1), ec2, (sz _ (by simp only [List.length_append, List.length_map, List.length_take, List.length_drop, List.length_cons, List.length_nil]; omega)), fun c3 f3 => ?_⟩
    have nc3 := ne_of_pl W32.pl f3
    have s33 := same_new (o := .lst ((as.take j).map V.ref ++ [y])) f3
    have ec3 : upd H32 c3 (.lst ((as.take j).map V.ref ++ [y])) c3 = some (.lst ((as.take j).map V.ref ++ [y])) := upd_same
    have bb33 := bb32.trans (.of_same s33)
    have W33 := W32.new (o := .lst ((as.take j).map V.ref ++ [y])) f3
    generalize upd H32 c3 (.lst ((as.take j).map V.ref ++ [y])) = H33 at s33 ec3 W33 bb33 ⊢
    have ej : ((j : Nat) : Int) + 1 = ((j + 1 : Nat) : Int) := by omega
    refine ⟨_, rfl, _, rfl, _, _, rfl, rfl, _, rfl, L, _, rfl, .inl (.inl W33.net), fun c4 f4 => ?_⟩
    rw [ej, cut_from, ← List.map_drop]
    have nc4 := ne_of_pl W33.pl f4
    have s34 := same_new (o := .lst ((as.drop (j + 1)).map V.ref)) f4
    have ec4 : upd H33 c4 (.lst ((as.drop (j + 1)).map V.ref)) c4 = some (.lst ((as.drop (j + 1)).map V.ref)) := upd_same
    have bb34 := bb33.trans (.of_same s34)
    have W34 := W33.new (o := .lst ((as.drop (j + 1)).map V.ref)) f4
    generalize upd H33 c4 (.lst ((as.drop (j + 1)).map V.ref)) = H34 at s34 ec4 W34 bb34 ⊢
    refine ⟨c3, c4, _, _, rfl, rfl, (s34 _ _ ec3), ec4, (sz _ (by simp only [List.length_append, List.length_map, List.length_take, List.length_drop, List.length_cons, List.length_nil]; omega)), fun z1 g1 => ?_⟩
    have nz1 := ne_of_pl W34.pl g1
    have s35 := same_new (o := .lst ((as.take j).map V.ref ++ [y] ++ (as.drop (j + 1)).map V.ref)) g1
    have ez1 : upd H34 z1 (.lst ((as.take j).map V.ref ++ [y] ++ (as.drop (j + 1)).map V.ref)) z1 = some (.lst ((as.take j).map V.ref ++ [y] ++ (as.drop (j + 1)).map V.ref)) := upd_same
    have bb35 := bb34.trans (.of_same s35)
    have W35 := W34.new (o := .lst ((as.take j).map V.ref ++ [y] ++ (as.drop (j + 1)).map V.ref)) g1
    generalize upd H34 z1 (.lst ((as.take j).map V.ref ++ [y] ++ (as.drop (j + 1)).map V.ref)) = H35 at s35 ez1 W35 bb35 ⊢
    have bz35 : But p H30 H35 := ((((But.of_same s31).trans (.of_same s32)).trans (.of_same s33)).trans (.of_same s34)).trans (.of_same s35)
    have W35 := W35.addJ (x := .ref z1) fun G b => js_list (b _ _ nz1 ez1) (by simp only [List.length_append, List.length_map, List.length_take, List.length_drop, List.length_cons, List.length_nil]; omega) fun v hv => by
      rcases List.mem_append.mp hv with hv | hv
      · rcases List.mem_append.mp hv with hv | hv
        · exact grN (fun a ha => List.mem_of_mem_take ha) G (bz35.trans b) v hv
        · rw [List.mem_singleton.mp hv]
          exact gy G (bz35.trans b)
      · exact grN (fun a ha => List.mem_of_mem_drop ha) G (bz35.trans b) v hv
    clear ec1 ec2 ec3 ec4 f1 f2 f3 f4 nc1 nc2 nc3 nc4 s31 s32 s33 s34 s35
    -- the site and the odd row behind it
    refine ⟨_, rfl, _, rfl, (by show 1 ≤ sizeLine; decide), fun c5 f5 => ?_⟩
    have nc5 := ne_of_pl W35.pl f5
    have s36 := same_new (o := .lst [y]) f5
    have ec5 : upd H35 c5 (.lst [y]) c5 = some (.lst [y]) := upd_same
    have bb36 := bb35.trans (.of_same s36)
    have W36 := W35.new (o := .lst [y]) f5
    generalize upd H35 c5 (.lst [y]) = H36 at s36 ec5 W36 bb36 ⊢
    refine ⟨L, c5, _, _, rfl, rfl, W36.net, ec5, (sz _ (by simp only [List.length_append, List.length_map, List.length_take, List.length_drop, List.length_cons, List.length_nil]; omega)), fun z2 g2 => ?_⟩
    have nz2 := ne_of_pl W36.pl g2
    have s37 := same_new (o := .lst (as.map V.ref ++ [y])) g2
    have ez2 : upd H36 z2 (.lst (as.map V.ref ++ [y])) z2 = some (.lst (as.map V.ref ++ [y])) := upd_same
    have bb37 := bb36.trans (.of_same s37)
    have W37 := W36.new (o := .lst (as.map V.ref ++ [y])) g2
    generalize upd H36 z2 (.lst (as.map V.ref ++ [y])) = H37 at s37 ez2 W37 bb37 ⊢
    have bz37 : But p H30 H37 := (bz35.trans (.of_same s36)).trans (.of_same s37)
    have W37 := W37.addJ (x := .ref z2) fun G b => js_list (b _ _ nz2 ez2) (by simp only [List.length_append, List.length_map, List.length_take, List.length_drop, List.length_cons, List.length_nil]; omega) fun v hv => by
      rcases List.mem_append.mp hv with hv | hv
      · exact grN (fun a ha => ha) G (bz37.trans b) v hv
      · rw [List.mem_singleton.mp hv]
        exact gy G (bz37.trans b)
    refine ⟨Nat.zero_le _, fun z3 g3 => ?_⟩
    have nz3 := ne_of_pl W37.pl g3
    have s38 := same_new (o := .lst []) g3
    have ez3 : upd H37 z3 (.lst []) z3 = some (.lst []) := upd_same
    have bb38 := bb37.trans (.of_same s38)
    have W38 := W37.new (o := .lst []) g3
    generalize upd H37 z3 (.lst []) = H38 at s38 ez3 W38 bb38 ⊢
    have W38 := W38.addJ (x := .ref z3) fun G b => js_list (b _ _ nz3 ez3) (Nat.zero_le _) fun v hv => nomatch hv
    refine ⟨_, rfl, L, _, rfl, .inl ⟨.inl (.inl W38.net), fun z4 g4 => ?_⟩⟩
    have nz4 := ne_of_pl W38.pl g4
    have s39 := same_new (o := .tup (as.map V.ref)) g4
    have ez4 : upd H38 z4 (.tup (as.map V.ref)) z4 = some (.tup (as.map V.ref)) := upd_same
    have bb39 := bb38.trans (.of_same s39)
    have W39 := W38.new (o := .tup (as.map V.ref)) g4
    generalize upd H38 z4 (.tup (as.map V.ref)) = H39 at s39 ez4 W39 bb39 ⊢
    have W39 := W39.addJ (x := .ref z4) fun G b => js_tupRows (b _ _ nz4 ez4) (W39.rowsG b) (by omega) (fun t hm => ⟨by have := (ht t hm).1; omega, fun z hz => by have := (ht t hm).2 z hz; omega⟩)
    refine fun z5 g5 => ?_
    have nz5 := ne_of_pl W39.pl g5
    have s40 := same_new (o := .dK []) g5
    have ez5 : upd H39 z5 (.dK []) z5 = some (.dK []) := upd_same
    have bb40 := bb39.trans (.of_same s40)
    have W40 := W39.new (o := .dK []) g5
    generalize upd H39 z5 (.dK []) = H40 at s40 ez5 W40 bb40 ⊢
    have W40 := W40.addJ (x := .ref z5) fun G b => js_gr (gr_dict (b _ _ nz5 ez5)) fun a xs e e2 => by
      cases e
      rw [b _ _ nz5 ez5] at e2
      cases e2
    refine ⟨(by show 9 ≤ sizeLine; decide), fun S1 fS1 => ?_⟩
    have nS1 := ne_of_pl W40.pl fS1
    have s41 := same_new (o := .lst [.ref z1, .ref z2, .ref z3, .ref z4, .non, .int 0, .str "", .ref z5, .bl true]) fS1
    have eS1 : upd H40 S1 (.lst [.ref z1, .ref z2, .ref z3, .ref z4, .non, .int 0, .str "", .ref z5, .bl true]) S1 = some (.lst [.ref z1, .ref z2, .ref z3, .ref z4, .non, .int 0, .str "", .ref z5, .bl true]) := upd_same
    have bb41 := bb40.trans (.of_same s41)
    have W41 := W40.new (o := .lst [.ref z1, .ref z2, .ref z3, .ref z4, .non, .int 0, .str "", .ref z5, .bl true]) fS1
    generalize upd H40 S1 (.lst [.ref z1, .ref z2, .ref z3, .ref z4, .non, .int 0, .str "", .ref z5, .bl true]) = H41 at s41 eS1 W41 bb41 ⊢
    clear ec5 nc5 f5 nz1 ez1 nz2 ez2 nz3 ez3 nz4 ez4 nz5 ez5 g1 g2 g3 g4 g5 fS1
    -- three more
    refine ⟨_, rfl, _, rfl, Nat.zero_le _, fun q1 f1 => ?_⟩
    have nq1 := ne_of_pl W41.pl f1
    have s42 := same_new (o := .lst []) f1
    have eq1 : upd H41 q1 (.lst []) q1 = some (.lst []) := upd_same
    have bb42 := bb41.trans (.of_same s42)
    have W42 := W41.new (o := .lst []) f1
    generalize upd H41 q1 (.lst []) = H42 at s42 eq1 W42 bb42 ⊢
    refine ⟨(by show 1 ≤ sizeLine; decide), fun q2 f2 => ?_⟩
    have nq2 := ne_of_pl W42.pl f2
    have s43 := same_new (o := .lst [.ref q1]) f2
    have eq2 : upd H42 q2 (.lst [.ref q1]) q2 = some (.lst [.ref q1]) := upd_same
    have bb43 := bb42.trans (.of_same s43)
    have W43 := W42.new (o := .lst [.ref q1]) f2
    generalize upd H42 q2 (.lst [.ref q1]) = H43 at s43 eq2 W43 bb43 ⊢
    refine ⟨_, rfl, _, _, rfl, rfl, q2, 13 - (as.length : Int), _, rfl, rfl, eq2, by omega, by omega, sz _ (by show 1 * (13 - (as.length : Int)).toNat ≤ 2000; omega), fun q3 f3 => ?_⟩
    have nq3 := ne_of_pl W43.pl f3
    have s44 := same_new (o := .lst (List.replicate (13 - (as.length : Int)).toNat [V.ref q1]).flatten) f3
    have eq3 : upd H43 q3 (.lst (List.replicate (13 - (as.length : Int)).toNat [V.ref q1]).flatten) q3 = some (.lst (List.replicate (13 - (as.length : Int)).toNat [V.ref q1]).flatten) := upd_same
    have bb44 := bb43.trans (.of_same s44)
    have W44 := W43.new (o := .lst (List.replicate (13 - (as.length : Int)).toNat [V.ref q1]).flatten) f3
    generalize upd H43 q3 (.lst (List.replicate (13 - (as.length : Int)).toNat [V.ref q1]).flatten) = H44 at s44 eq3 W44 bb44 ⊢
    refine ⟨L, q3, _, _, rfl, rfl, W44.net, eq3, sz _ (by rw [len_rep, List.length_map]; show as.length + (13 - (as.length : Int)).toNat * 1 ≤ 2000; omega), fun z6 f6 => ?_⟩
    have nz6 := ne_of_pl W44.pl f6
    have s45 := same_new (o := .lst (as.map V.ref ++ (List.replicate (13 - (as.length : Int)).toNat [V.ref q1]).flatten)) f6
    have ez6 : upd H44 z6 (.lst (as.map V.ref ++ (List.replicate (13 - (as.length : Int)).toNat [V.ref q1]).flatten)) z6 = some (.lst (as.map V.ref ++ (List.replicate (13 - (as.length : Int)).toNat [V.ref q1]).flatten)) := upd_same
    have bb45 := bb44.trans (.of_same s45)
    have W45 := W44.new (o := .lst (as.map V.ref ++ (List.replicate (13 - (as.length : Int)).toNat [V.ref q1]).flatten)) f6
    generalize upd H44 z6 (.lst (as.map V.ref ++ (List.replicate (13 - (as.length : Int)).toNat [V.ref q1]).flatten)) = H45 at s45 ez6 W45 bb45 ⊢
    have bz45 : But p H30 H45 := ((((((((bz37.trans (.of_same s38)).trans (.of_same s39)).trans (.of_same s40)).trans (.of_same s41)).trans (.of_same s42)).trans (.of_same s43)).trans (.of_same s44)).trans (.of_same s45))
    have W45 := W45.addJ (x := .ref z6) fun G b => js_list (b _ _ nz6 ez6) (by rw [List.length_append, len_rep, List.length_map]; show as.length + (13 - (as.length : Int)).toNat * 1 ≤ 700; omega) fun v hv => by
      rcases List.mem_append.mp hv with hv | hv
      · exact grN (fun a ha => ha) G (bz45.trans b) v hv
      · rw [List.mem_singleton.mp (mem_rep hv)]
        exact gr_nums (l := []) (b _ _ nq1 (s45 _ _ (s44 _ _ (s43 _ _ eq1)))) (fun z hz => nomatch hz) (Nat.zero_le _)
    clear f1 f2 f3 f6 eq2 eq3 nq2 nq3
    refine ⟨_, rfl, (by show 1 ≤ sizeLine; decide), fun q4 f4 => ?_⟩
    have nq4 := ne_of_pl W45.pl f4
    have s46 := same_new (o := .lst [.int 0]) f4
    have eq4 : upd H45 q4 (.lst [.int 0]) q4 = some (.lst [.int 0]) := upd_same
    have bb46 := bb45.trans (.of_same s46)
    have W46 := W45.new (o := .lst [.int 0]) f4
    generalize upd H45 q4 (.lst [.int 0]) = H46 at s46 eq4 W46 bb46 ⊢
    refine ⟨(by show 1 ≤ sizeLine; decide), fun q5 f5 => ⟨q5, 388, _, rfl, rfl, upd_same, by decide, by decide, sz _ (by show 1 * 388 ≤ 2000; decide), ?_⟩⟩
    have nq5 := ne_of_pl W46.pl f5
    have s47 := same_new (o := .lst [.ref q4]) f5
    have bb47 := bb46.trans (.of_same s47)
    have W47 := W46.new (o := .lst [.ref q4]) f5
    generalize upd H46 q5 (.lst [.ref q4]) = H47 at s47 bb47 W47 ⊢
    refine fun q6 f6 => ?_
    have nq6 := ne_of_pl W47.pl f6
    have s48 := same_new (o := .lst (List.replicate (Int.toNat 388) [V.ref q4]).flatten) f6
    have eq6 : upd H47 q6 (.lst (List.replicate (Int.toNat 388) [V.ref q4]).flatten) q6 = some (.lst (List.replicate (Int.toNat 388) [V.ref q4]).flatten) := upd_same
    have bb48 := bb47.trans (.of_same s48)
    have W48 := W47.new (o := .lst (List.replicate (Int.toNat 388) [V.ref q4]).flatten) f6
    generalize upd H47 q6 (.lst (List.replicate (Int.toNat 388) [V.ref q4]).flatten) = H48 at s48 eq6 W48 bb48 ⊢
    refine ⟨L, q6, _, _, rfl, rfl, W48.net, eq6, sz _ (by rw [len_rep, List.length_map]; show as.length + 388 * 1 ≤ 2000; omega), fun z7 f7 => ?_⟩
    have nz7 := ne_of_pl W48.pl f7
    have s49 := same_new (o := .lst (as.map V.ref ++ (List.replicate (Int.toNat 388) [V.ref q4]).flatten)) f7
    have ez7 : upd H48 z7 (.lst (as.map V.ref ++ (List.replicate (Int.toNat 388) [V.ref q4]).flatten)) z7 = some (.lst (as.map V.ref ++ (List.replicate (Int.toNat 388) [V.ref q4]).flatten)) := upd_same
    have bb49 := bb48.trans (.of_same s49)
    have W49 := W48.new (o := .lst (as.map V.ref ++ (List.replicate (Int.toNat 388) [V.ref q4]).flatten)) f7
    generalize upd H48 z7 (.lst (as.map V.ref ++ (List.replicate (Int.toNat 388) [V.ref q4]).flatten)) = H49 at s49 ez7 W49 bb49 ⊢
    have bz49 : But p H30 H49 := ((((bz45.trans (.of_same s46)).trans (.of_same s47)).trans (.of_same s48)).trans (.of_same s49))
    have W49 := W49.addJ (x := .ref z7) fun G b => js_list (b _ _ nz7 ez7) (by rw [List.length_append, len_rep, List.length_map]; show as.length + 388 * 1 ≤ 700; omega) fun v hv => by
      rcases List.mem_append.mp hv with hv | hv
      · exact grN (fun a ha => ha) G (bz49.trans b) v hv
      · rw [List.mem_singleton.mp (mem_rep hv)]
        exact gr_nums (l := [0]) (b _ _ nq4 (s49 _ _ (s48 _ _ (s47 _ _ eq4)))) (fun z hz => by rw [List.mem_singleton.mp hz]; decide) (by decide)
    refine ⟨_, rfl, (by show 1 ≤ sizeLine; decide), fun z8 f8 => ?_⟩
    have nz8 := ne_of_pl W49.pl f8
    have s50 := same_new (o := .lst [.ref L]) f8
    have ez8 : upd H49 z8 (.lst [.ref L]) z8 = some (.lst [.ref L]) := upd_same
    have bb50 := bb49.trans (.of_same s50)
    have W50 := W49.new (o := .lst [.ref L]) f8
    generalize upd H49 z8 (.lst [.ref L]) = H50 at s50 ez8 W50 bb50 ⊢
    have W50 := W50.addJ (x := .ref z8) fun G b => js_list (b _ _ nz8 ez8) (by show 1 ≤ 700; decide) fun v hv => by
      rw [List.mem_singleton.mp hv]
      exact gr_rows (b _ _ W50.nLp W50.net) (W50.rowsG b) (by omega) (fun t hm => ⟨by have := (ht t hm).1; omega, fun z hz => by have := (ht t hm).2 z hz; omega⟩)
    refine ⟨(by show 3 ≤ sizeLine; decide), fun S2 fS2 => ?_⟩
    have nS2 := ne_of_pl W50.pl fS2
    have s51 := same_new (o := .lst [.ref z6, .ref z7, .ref z8]) fS2
    have eS2 : upd H50 S2 (.lst [.ref z6, .ref z7, .ref z8]) S2 = some (.lst [.ref z6, .ref z7, .ref z8]) := upd_same
    have bb51 := bb50.trans (.of_same s51)
    have W51 := W50.new (o := .lst [.ref z6, .ref z7, .ref z8]) fS2
    generalize upd H50 S2 (.lst [.ref z6, .ref z7, .ref z8]) = H51 at s51 eS2 W51 bb51 ⊢
    refine ⟨S1, S2, _, _, rfl, rfl, (s51 _ _ (s50 _ _ (s49 _ _ (s48 _ _ (s47 _ _ (s46 _ _ (s45 _ _ (s44 _ _ (s43 _ _ (s42 _ _ eS1)))))))))), eS2, (by show 12 ≤ sizeLine; decide), fun S3 fS3 => ?_⟩
    have nS3 := ne_of_pl W51.pl fS3
    have s52 := same_new (o := .lst ([V.ref z1, .ref z2, .ref z3, .ref z4, .non, .int 0, .str "", .ref z5, .bl true] ++ [.ref z6, .ref z7, .ref z8] : List V)) fS3
    have eS3 : upd H51 S3 (.lst ([V.ref z1, .ref z2, .ref z3, .ref z4, .non, .int 0, .str "", .ref z5, .bl true] ++ [.ref z6, .ref z7, .ref z8] : List V)) S3 = some (.lst ([V.ref z1, .ref z2, .ref z3, .ref z4, .non, .int 0, .str "", .ref z5, .bl true] ++ [.ref z6, .ref z7, .ref z8] : List V)) := upd_same
    have bb52 := bb51.trans (.of_same s52)
    have W52 := W51.new (o := .lst ([V.ref z1, .ref z2, .ref z3, .ref z4, .non, .int 0, .str "", .ref z5, .bl true] ++ [.ref z6, .ref z7, .ref z8] : List V)) fS3
    generalize upd H51 S3 (.lst ([V.ref z1, .ref z2, .ref z3, .ref z4, .non, .int 0, .str "", .ref z5, .bl true] ++ [.ref z6, .ref z7, .ref z8] : List V)) = H52 at s52 eS3 W52 bb52 ⊢
    have j12 : ∀ v ∈ ([V.ref z1, .ref z2, .ref z3, .ref z4, .non, .int 0, .str "", .ref z5, .bl true] ++ [.ref z6, .ref z7, .ref z8] : List V), ∀ G, But p H52 G → Js K G v := by
      intro v hv
      rcases List.mem_append.mp hv with hv | hv
      · rcases List.mem_cons.mp hv with rfl | hv
        · exact W52.hj _ (by simp)
        rcases List.mem_cons.mp hv with rfl | hv
        · exact W52.hj _ (by simp)
        rcases List.mem_cons.mp hv with rfl | hv
        · exact W52.hj _ (by simp)
        rcases List.mem_cons.mp hv with rfl | hv
        · exact W52.hj _ (by simp)
        rcases List.mem_cons.mp hv with rfl | hv
        · exact fun G _ => js_gr (gr_gi gi_non fun a xs e => nomatch e) fun a xs e => nomatch e
        rcases List.mem_cons.mp hv with rfl | hv
        · exact fun G _ => js_gr (gr_gi (gi_int (by decide)) fun a xs e => nomatch e) fun a xs e => nomatch e
        rcases List.mem_cons.mp hv with rfl | hv
        · exact fun G _ => js_gr (gr_gi (gi_str (by simp only [PyData.canLay0]; decide +kernel) (by simp only [PyData.leavesShort]; decide +kernel) (by decide +kernel)) fun a xs e => nomatch e) fun a xs e => nomatch e
        rcases List.mem_cons.mp hv with rfl | hv
        · exact W52.hj _ (by simp)
        · rw [List.mem_singleton.mp hv]
          exact fun G _ => js_gr (gr_gi (gi_bl _) fun a xs e => nomatch e) fun a xs e => nomatch e
      · exact W52.hj _ (by rcases List.mem_cons.mp hv with rfl | hv; simp; rcases List.mem_cons.mp hv with rfl | hv; simp; rw [List.mem_singleton.mp hv]; simp)
    have hl12 : ([V.ref z1, .ref z2, .ref z3, .ref z4, .non, .int 0, .str "", .ref z5, .bl true] ++ [.ref z6, .ref z7, .ref z8] : List V).length = 12 := rfl
    generalize ([V.ref z1, .ref z2, .ref z3, .ref z4, .non, .int 0, .str "", .ref z5, .bl true] ++ [.ref z6, .ref z7, .ref z8] : List V) = sl at j12 hl12 eS3 ⊢
    refine ⟨_, rfl, .ref p, rfl, p, 12, _, rfl, W52.pl, by omega, by decide, by decide, fun Ha i3 ba Pa r0 r1 => ?_⟩
    have Wa := W52.step ba Pa
    refine ⟨(by show 4 ≤ sizeLine; decide), fun J fJ => ?_⟩
    have nJ := ne_of_pl Pa fJ
    have sJ := same_new (o := .lst [.int 0, .int 0, .int 0, .int i3]) fJ
    have eJ : upd Ha J (.lst [.int 0, .int 0, .int 0, .int i3]) J = some (.lst [.int 0, .int 0, .int 0, .int i3]) := upd_same
    refine ⟨.ref p, rfl, p, 4, _, rfl, Pa.same sJ, by omega, by decide, by decide, fun Hb i4 bb Pb r2 r3 => ?_⟩
    obtain ⟨v2, hv2, hm2⟩ := at_ex (xs := [V.int 0, V.int 0, V.int 0, V.int i3]) r2 (by show i4 < 4; exact r3)
    obtain ⟨k4, rfl, k5, k6⟩ : ∃ k4 : Int, v2 = .int k4 ∧ 0 ≤ k4 ∧ k4 < 12 := by
      rcases List.mem_cons.mp hm2 with e | hm2
      · exact ⟨_, e, by decide, by decide⟩
      rcases List.mem_cons.mp hm2 with e | hm2
      · exact ⟨_, e, by decide, by decide⟩
      rcases List.mem_cons.mp hm2 with e | hm2
      · exact ⟨_, e, by decide, by decide⟩
      · exact ⟨_, List.mem_singleton.mp hm2, r0, r1⟩
    obtain ⟨v, hv, hvm⟩ := at_ex (xs := sl) k5 (by omega)
    have bE : But p H52 Hb := (ba.trans (.of_same sJ)).trans bb
    refine ⟨J, _, i4, _, rfl, rfl, .inl (.inl (bb _ _ nJ eJ)), hv2, S3, _, k4, v, rfl, rfl, .inl (.inl (bE _ _ nS3 eS3)), hv, ?_⟩
    exact q Hb v (bb52.trans bE) (Pb.mono (by omega)) (j12 v hvm Hb bE)
def sp__law_holds (K : PySem.W.Frag) : Sp := fun vs H Q _ => ∃ (p : Addr) (most : Int) (n : Nat), vs = [.ref p, .int most] ∧ Pl H p n ∧ n ≤ 800000 ∧ 1 ≤ most ∧ most ≤ 12 ∧ ∀ H', But p H H' → Q (.bl true) H'
theorem ok__law_holds (T : Top K mg)
    (G__law_net : FnOk P w K mg base CX0 2 T.a__law_net T.d__law_net ["_law_source_here", "_law_most"] (sp__law_net K))
    (G__law_draw : FnOk P w K mg base CX0 1 T.a__law_draw T.d__law_draw ["_law_source_here", "_law_count"] (sp__law_draw K))
    (G__law_checked : FnG P w K mg base CX0 6 T.a__law_checked T.d__law_checked ["_law_value"] (sp__law_checked K))
    (G_is_site : FnOk P w K mg base CX0 5 T.a_is_site T.d_is_site ["value"] (sp_is_site K))
    (G__law_bad_net : FnOk P w K mg base CX0 2 T.a__law_bad_net T.d__law_bad_net ["_law_source_here", "_law_net_here"] (sp__law_bad_net K)) :
    FnG P w K mg base CX0 7 T.a__law_holds T.d__law_holds ["_law_source_here", "_law_most"] (sp__law_holds K) := by
  refine Fun_okG T.F__law_holds sc__law_holds (fun vs H Q E h => ?_) (fun cdv A outer s H vs Q E hG hr h => ?_)
  · obtain ⟨p, most, n, rfl, _⟩ := h
    rfl
  · obtain ⟨p, most, n, rfl, hP, hn, m1, m2, q⟩ := h
    have nd := sc__law_holds.nd
    have hu := hu_of hr
    have hU := units_of hr
    have hu64 := u64_of hr
    refine ⟨_, (pss_cons (ps_set (i := 2) nd rfl (Or.inl rfl) (pe_call G__law_net (hr.mono (by decide)) (by rfl) T.g__law_net T.F__law_net.kp T.b__law_net .nil pass0 (pa_cons (pv 0) (pa_cons (pv 1) pa_nil))))
      (pss_cons (ps_for PassesOwn.never rfl (pi_range1 (by rfl) T.n_range (pa_cons pe_int pa_nil)) (pg_name (i := 3) nd rfl (Or.inl rfl)) (pss_one (ps_if ((pw_or (pt_not (pt_val (pe_callG G__law_checked hG (hr.mono (by decide)) (by rfl) T.g__law_checked T.F__law_checked.kp T.b__law_checked .nil pass0 (pa_cons (pv 2) pa_nil)))) (pw_or1 (pt_not (pt_val (pe_callG G__law_checked hG (hr.mono (by decide)) (by rfl) T.g__law_checked T.F__law_checked.kp T.b__law_checked .nil pass0 (pa_cons (pe_call G__law_bad_net (hr.mono (by decide)) (by rfl) T.g__law_bad_net T.F__law_bad_net.kp T.b__law_bad_net .nil pass0 (pa_cons (pv 0) (pa_cons (pv 2) pa_nil))) pa_nil))))))).pt (pss_one (ps_ret pe_bl)) pss_nil)))
      (pss_cons (ps_for PassesOwn.never rfl (pi_range1 (by rfl) T.n_range (pa_cons pe_int pa_nil)) (pg_name (i := 3) nd rfl (Or.inl rfl)) (pss_cons (ps_set (i := 4) nd rfl (Or.inl rfl) (pe_ix ix_list (pv 2) (pe_call G__law_draw (hr.mono (by decide)) (by rfl) T.g__law_draw T.F__law_draw.kp T.b__law_draw .nil pass0 (pa_cons (pv 0) (pa_cons (pe_callB call_len_seq (by rfl) T.n_len (by decide +kernel) (pa_cons (pv 2) pa_nil)) pa_nil))) (fun _ _ => rfl)))
      (pss_cons (ps_set (i := 5) nd rfl (Or.inl rfl) (pe_call G__law_draw (hr.mono (by decide)) (by rfl) T.g__law_draw T.F__law_draw.kp T.b__law_draw .nil pass0 (pa_cons (pv 0) (pa_cons (pe_callB call_len_seq (by rfl) T.n_len (by decide +kernel) (pa_cons (pv 2) pa_nil)) pa_nil))))
      (pss_cons (ps_if (pt_cmpR op_in_seq (pv 5) (pv 4) rfl) (pss_one (ps_expr (pe_bm PySem.F.plainAttrs_list PySem.F.slot_list_remove PySem.F.type_list_remove mt_remove (pv 4) (pa_cons (pv 5) pa_nil)))) (pss_one (ps_expr (pe_bm PySem.F.plainAttrs_list PySem.F.slot_list_append PySem.F.type_list_append mt_append (pv 4) (pa_cons (pv 5) pa_nil)))))
      (pss_one (ps_if (pt_not (pt_val (pe_callG G__law_checked hG (hr.mono (by decide)) (by rfl) T.g__law_checked T.F__law_checked.kp T.b__law_checked .nil pass0 (pa_cons (pv 2) pa_nil)))) (pss_one (ps_ret pe_bl)) pss_nil))))))
      (pss_cons (ps_setLc (i := 6) (own := [("_law_spot", 9)]) (tt := tYes) rfl nd rfl rfl (sw_true rfl rfl rfl (by decide +kernel)) (pi_range1 (by rfl) T.n_range (pa_cons pe_int pa_nil)) (blkOk_by (N := N__law_holds) (sc := defScope s__law_holds) (by decide +kernel)) (fun _ _ _ _ _ => (pg_name (i := 9) nd rfl (Or.inr rfl))) (fun _ _ _ _ _ => pts_nil) (fun _ _ _ _ _ => (pe_lc (own := [("_law_other", 5)]) rfl nd (pi_range1 (by rfl) T.n_range (pa_cons pe_int pa_nil)) (blkOk_by (N := N__law_holds) (sc := { kind := .function, names := [(".0", .local), ("_law_spot", .cell), ("range", .globalImplicit)], isGenerator := false, isCoroutine := false }) (by decide +kernel)) (fun _ _ _ _ _ => (pg_name (i := 5) nd rfl (Or.inl rfl))) (fun _ _ _ _ _ => (pts_one (pt_cmpR op_ne (pv 5) (pv 9) (nomark _)))) (fun _ _ _ _ _ => (pv 5)))))
      (pss_cons (ps_set (i := 7) nd rfl (Or.inl rfl) (pe_lst (pa_cons pe_int pa_nil)))
      (pss_cons (ps_for PassesOwn.never rfl (pi_range1 (by rfl) T.n_range (pa_cons pe_int pa_nil)) (pg_name (i := 3) nd rfl (Or.inl rfl)) (pss_one (ps_set (i := 7) nd rfl (Or.inl rfl) (pe_lst (pa_cons (pv 7) pa_nil)))))
      (pss_cons (ps_set (i := 8) nd rfl (Or.inl rfl) (pe_lst (pa_cons (pv 6) (pa_cons (pe_op op_cat (pv 6) (pe_lst (pa_cons (pe_lst pa_nil) pa_nil))) (pa_cons (pe_op op_rep (pe_lst (pa_cons (pe_lst pa_nil) pa_nil)) pe_int) (pa_cons (pe_op op_rep (pe_lst (pa_cons (pe_lst pa_nil) pa_nil)) pe_int) (pa_cons (pe_lst (pa_cons (pe_lst (pa_cons pe_int pa_nil)) (pa_cons (pe_lst (pa_cons pe_bl pa_nil)) pa_nil))) (pa_cons (pe_lst (pa_cons (pe_lst pa_nil) (pa_cons (pe_lst (pa_cons pe_int pa_nil)) pa_nil))) (pa_cons (pe_lst (pa_cons (pe_lst (pa_cons pe_int pa_nil)) pa_nil)) (pa_cons (pv 7) (pa_cons (pe_lst (pa_cons (pe_lst (pa_cons pe_int pa_nil)) (pa_cons (pe_lst (pa_cons pe_int pa_nil)) (pa_cons (pe_lst (pa_cons pe_int pa_nil)) pa_nil)))) pa_nil)))))))))))
      (pss_one (ps_ret (pe_cmpR (op_eqD hu64) (pe_lc (own := [("_law_value", 10)]) (tt := tYes) rfl nd  (pi_list (pv 8)) (blkOk_by (N := N__law_holds) (sc := defScope s__law_holds) (by decide +kernel)) (fun _ _ _ _ _ => (pg_name (i := 10) nd rfl (Or.inl rfl))) (fun _ _ _ _ _ => pts_nil) (fun _ _ _ _ _ => (pe_call G_is_site (hr.mono (by decide)) (by rfl) T.g_is_site T.F_is_site.kp T.b_is_site .nil pass0 (pa_cons (pv 10) pa_nil)))) (pe_lst (pa_cons pe_bl (pa_cons pe_bl (pa_cons pe_bl (pa_cons pe_bl (pa_cons pe_bl (pa_cons pe_bl (pa_cons pe_bl (pa_cons pe_bl (pa_cons pe_bl pa_nil)))))))))) (nomark _))))))))))), ?_⟩
    refine ⟨.ref p, rfl, _, rfl, p, most, n, rfl, hP, by omega, m1, m2, fun H1 L as ts b1 P1 L0 eL R nd fr n1 n2 lk => ?_⟩
    have nLp : L ≠ p := ne_of_pl hP L0
    have W1 : Wb K p L as ts (n + 400 + 10 * 0) [] [] [] H1 := ⟨P1, eL, R, nLp, fun r hr => (fr r hr).2.2, (fun _ h => nomatch h), (fun _ h => nomatch h), (fun _ h => nomatch h)⟩
    have ht : ∀ t ∈ ts, t.length ≤ 12 ∧ Pgs t := fun t hm => by
      obtain ⟨j, hj⟩ := List.mem_iff_getElem?.mp hm
      have h1 := lk j t hj
      exact ⟨Nat.le_trans (links_len h1) n2, fun z hz => by have := h1.1 z hz; omega⟩
    refine ⟨10, rfl, by decide, by decide, for_range (n := 10) (fun i σ H2 => ∃ y3 y4 y5 y6 y7 y8 y9 y10, σ = [some (.ref p), some (.int most), some (.ref L), y3, y4, y5, y6, y7, y8, y9, y10] ∧ But p H H2 ∧ Wb K p L as ts (n + 400 + 10 * i) [] [] [] H2) ⟨_, _, _, _, _, _, _, _, rfl, b1, W1⟩ (fun i σ H2 hi hW => ?_) (fun σ H2 hW => ?_)⟩
    case refine_1 =>
      obtain ⟨y3, y4, y5, y6, y7, y8, y9, y10, rfl, b2, W2⟩ := hW
      obtain ⟨ok, tx, hs⟩ := js_rows (K := K) W2.net W2.rows (by omega) fun t hm => ⟨by have := (ht t hm).1; omega, fun z hz => by have := (ht t hm).2 z hz; omega⟩
      refine ⟨_, rfl, .ref L, tx, rfl, ok, hs, fun H3 s3 => ⟨_, rfl, ?_⟩⟩
      show if (!true) = true then _ else _
      refine iteF ?_
      have W3 := W2.step (.of_same s3) (W2.pl.same s3)
      refine ⟨.ref p, rfl, .ref L, rfl, p, L, as, ts, _, rfl, W3, by omega, n1, n2, ht, fun H4 x b4 P4 js => ?_⟩
      obtain ⟨ok2, tx2, hs2⟩ := js
      refine ⟨x, tx2, rfl, ok2, hs2, fun H5 s5 => ⟨_, rfl, ?_⟩⟩
      show if (!true) = true then _ else _
      have b5 := b4.trans (.of_same s5)
      refine iteF ⟨_, _, _, _, _, _, _, _, rfl, (b2.trans (.of_same s3)).trans b5, W3.step b5 ((P4.same s5).mono (by omega))⟩
    obtain ⟨y3, y4, y5, y6, y7, y8, y9, y10, rfl, b2, W2⟩ := hW
    have P2 := W2.pl
    have e2 := W2.net
    have R2 := W2.rows
    clear W1 W2 P1 eL R b1 lk
    have fr0 : ∀ r ∈ as, H r = none := fun r hr => (fr r hr).1
    have frL : ∀ r ∈ as, r ≠ L := fun r hr => (fr r hr).2.1
    have frp : ∀ r ∈ as, r ≠ p := fun r hr => (fr r hr).2.2
    clear fr
    refine ⟨6, rfl, by decide, by decide, for_range (n := 6) (fun i σ H3 => ∃ y3 y4 y5 y6 y7 y8 y9 y10, ∃ ts : List (List Int), σ = [some (.ref p), some (.int most), some (.ref L), y3, y4, y5, y6, y7, y8, y9, y10] ∧ But p H H3 ∧ Pl H3 p (n + 500 + 2 * i) ∧ H3 L = some (.lst (as.map V.ref)) ∧ Rows H3 as ts ∧ ∀ t ∈ ts, t.length ≤ 12 + i ∧ Pgs t) ⟨_, _, _, _, _, _, _, _, ts, rfl, b2, P2.mono (by omega), e2, R2, ht⟩ (fun i σ H3 hi hW => ?_) (fun σ H3 hW => ?_)⟩
    case refine_1 =>
      clear ht ts R2 e2 P2 b2
      obtain ⟨y3, y4, y5, y6, y7, y8, y9, y10, ts, rfl, b3, P3, e3, R3, ht⟩ := hW
      have hal : (as.map V.ref).length = as.length := List.length_map _
      refine ⟨.ref L, rfl, .ref p, rfl, .ref L, rfl, L, _, rfl, .inl (.inl (.inl e3)), p, _, _, rfl, P3, by omega, (by rw [hal]; omega), (by rw [hal]; omega), fun H4 a1 b4 P4 a2 a3 => ?_⟩
      rw [hal] at a3
      obtain ⟨j, rfl⟩ := Int.eq_ofNat_of_zero_le a2
      have hj : j < as.length := by omega
      obtain ⟨r, hr⟩ : ∃ r, as[j]? = some r := ⟨_, List.getElem?_eq_getElem hj⟩
      have hrm := List.mem_of_getElem? hr
      have ar : atI (as.map V.ref) (j : Int) = some (.ref r) := atI_nat (by rw [List.getElem?_map, hr]; rfl)
      have e4 := b4 _ _ nLp e3
      have R4 : Rows H4 as ts := R3.mono fun r hr o e => b4 r o (frp r hr) e
      refine ⟨L, _, _, _, rfl, rfl, .inl (.inl e4), ar, .ref p, rfl, .ref L, rfl, L, _, rfl, .inl (.inl (.inl e4)), p, _, _, rfl, P4, by omega, (by rw [hal]; omega), (by rw [hal]; omega), fun H5 z b5 P5 z1 z2 => ?_⟩
      rw [hal] at z2
      have e5 := b5 _ _ nLp e4
      have R5 : Rows H5 as ts := R4.mono fun r hr o e => b5 r o (frp r hr) e
      have b35 := (b3.trans b4).trans b5
      obtain ⟨t, htj, et⟩ := R5.at hr
      obtain ⟨tl, tp⟩ := ht t (List.mem_of_getElem? htj)
      have fin : ∀ t' : List Int, t'.length ≤ 12 + (i + 1) → Pgs t' → ∀ σ, σ = [some (.ref p), some (.int most), some (.ref L), some (V.int (0 + (i : Int))), some (V.ref r), some (V.int z), y6, y7, y8, y9, y10] →
          But p H (upd H5 r (.lst (t'.map V.int))) ∧ Pl (upd H5 r (.lst (t'.map V.int))) p (n + 500 + 2 * (i + 1)) ∧ upd H5 r (.lst (t'.map V.int)) L = some (.lst (as.map V.ref)) ∧ Rows (upd H5 r (.lst (t'.map V.int))) as (ts.set j t') ∧ ∀ t ∈ ts.set j t', t.length ≤ 12 + (i + 1) ∧ Pgs t := by
        intro t' l' p' σ _
        refine ⟨b35.new (fr0 r hrm), ?_, (upd_ne (frL r hrm).symm).trans e5, Rows.set t' R5 nd hr, fun t2 h2 => ?_⟩
        · obtain ⟨x1, x2, x3, e, e2⟩ := P5.mono (m := n + 500 + 2 * (i + 1)) (by omega)
          exact ⟨x1, x2, x3, (upd_ne (frp r hrm).symm).trans e, e2⟩
        · rcases List.mem_or_eq_of_mem_set h2 with h | h
          · exact ⟨by have := (ht t2 h).1; omega, (ht t2 h).2⟩
          · rw [h]
            exact ⟨l', p'⟩
      refine ⟨_, rfl, .ref r, rfl, r, _, rfl, .inl (.inl (.inl et)), rfl, flat_nums _, _, rfl, ?_⟩
      show if inV (.int z) (t.map V.int) = true then _ else _
      rw [inV_nums]
      refine ite2 (fun c => ?_) (fun c => ?_)
      · have hm := of_decide_eq_true c
        obtain ⟨f1, f2⟩ := first_at hm
        refine ⟨.ref r, rfl, .inl ⟨rfl, _, .inl (.inl et)⟩, _, rfl, r, t, z, t.idxOf z, rfl, rfl, et, f1, f2, ?_⟩
        have l1 : (t.eraseIdx (t.idxOf z)).length ≤ 12 + (i + 1) := Nat.le_trans (List.length_eraseIdx_le _ _) (by omega)
        have l2 : Pgs (t.eraseIdx (t.idxOf z)) := fun w hw => tp w (List.mem_of_mem_eraseIdx hw)
        obtain ⟨c1, c2, c3, c4, c5⟩ := fin (t.eraseIdx (t.idxOf z)) l1 l2 _ rfl
        generalize upd H5 r (.lst ((t.eraseIdx (t.idxOf z)).map V.int)) = H6 at c1 c2 c3 c4 ⊢
        obtain ⟨ok, tx, hs⟩ := js_rows (K := K) c3 c4 (by omega) fun t hm => ⟨by have := (c5 t hm).1; omega, fun z hz => by have := (c5 t hm).2 z hz; omega⟩
        refine ⟨_, rfl, .ref L, tx, rfl, ok, hs, fun H7 s7 => ⟨_, rfl, ?_⟩⟩
        show if (!true) = true then _ else _
        exact iteF ⟨_, _, _, _, _, _, _, _, _, rfl, c1.trans (.of_same s7), c2.same s7, s7 _ _ c3, c4.same s7, c5⟩
      · refine ⟨.ref r, rfl, .inl ⟨rfl, _, .inl (.inl et)⟩, _, rfl, r, _, _, rfl, rfl, et, ?_, ?_⟩
        · rw [List.length_map]
          exact Nat.lt_of_le_of_lt (show t.length ≤ 20 by omega) (by decide)
        have l1 : (t ++ [z]).length ≤ 12 + (i + 1) := by rw [List.length_append]; show t.length + 1 ≤ _; omega
        have l2 : Pgs (t ++ [z]) := fun w hw => by
          rcases List.mem_append.mp hw with hw | hw
          · exact tp w hw
          · rw [List.mem_singleton.mp hw]
            omega
        have em : t.map V.int ++ [V.int z] = (t ++ [z]).map V.int := by rw [List.map_append]; rfl
        rw [em]
        obtain ⟨c1, c2, c3, c4, c5⟩ := fin (t ++ [z]) l1 l2 _ rfl
        generalize upd H5 r (.lst ((t ++ [z]).map V.int)) = H6 at c1 c2 c3 c4 ⊢
        obtain ⟨ok, tx, hs⟩ := js_rows (K := K) c3 c4 (by omega) fun t hm => ⟨by have := (c5 t hm).1; omega, fun z hz => by have := (c5 t hm).2 z hz; omega⟩
        refine ⟨_, rfl, .ref L, tx, rfl, ok, hs, fun H7 s7 => ⟨_, rfl, ?_⟩⟩
        show if (!true) = true then _ else _
        exact iteF ⟨_, _, _, _, _, _, _, _, _, rfl, c1.trans (.of_same s7), c2.same s7, s7 _ _ c3, c4.same s7, c5⟩
    obtain ⟨y3, y4, y5, y6, y7, y8, y9, y10, ts2, rfl, b3, _⟩ := hW
    clear ht ts R2 e2 P2 b2 fr0 frL frp L0 nLp nd n1 n2 m1 m2
    -- all links
    refine ⟨12, rfl, by decide, by decide, fun F hF => lc_range (lo := 0) (n := 12) (fun i H' => ∃ fs : List Addr, Same H3 H' ∧ H' F = some (.lst (fs.map V.ref)) ∧ RowsV H' fs ((List.range i).map fun i => (rowF i 12).map V.int) ∧ (∀ f ∈ fs, f ≠ F)) ⟨[], same_new hF, upd_same, .nil, fun _ h => nomatch h⟩ (fun i H' hi hW => ?_) (fun H' hW => ?_)⟩
    case refine_1 =>
      obtain ⟨fs, s4, eF, RF, nF⟩ := hW
      refine ⟨rfl, ?_⟩
      refine ⟨12, rfl, by decide, by decide, fun G hG => lc_range (lo := 0) (n := 12) (fun o H'' => Same H' H'' ∧ H'' G = some (.lst ((rowF i o).map V.int))) ⟨same_new hG, upd_same⟩ (fun o H'' ho hp => ?_) (fun H'' hp => ?_)⟩
      case refine_1 =>
        obtain ⟨s5, eG⟩ := hp
        refine ⟨rfl, _, rfl, _, rfl, rfl, _, rfl, ?_⟩
        by_cases c : o = i
        · rw [decide_eq_true (show V.int (0 + (o : Int)) = V.int (0 + (i : Int)) by rw [c])]
          show if (!true) = true then _ else _
          refine iteF ⟨s5, ?_⟩
          rw [rowF_succ, if_pos c]
          exact eG
        · rw [decide_eq_false (show ¬ V.int (0 + (o : Int)) = V.int (0 + (i : Int)) from fun w => c (by injection w with w; omega))]
          show if (!false) = true then _ else _
          refine iteT ⟨_, rfl, _, eG, ?_, fun b x e => (upd_ne (ne_of_none e hG)).trans (s5 _ _ e), ?_⟩
          · rw [List.length_map]
            exact Nat.lt_of_le_of_lt (Nat.le_trans (rowF_len i o) (show o ≤ 12 by omega)) (by decide)
          · rw [upd_same, rowF_succ, if_neg c, List.map_append, Int.zero_add]
            rfl
      obtain ⟨s5, eG⟩ := hp
      have nGF : G ≠ F := fun e => by rw [e, eF] at hG; cases hG
      have ff : ∀ f ∈ fs, f ≠ F ∧ ∀ o, H' f = some o → upd H'' F (.lst (fs.map V.ref ++ [V.ref G])) f = some o := fun f hf => ⟨nF f hf, fun o e => (upd_ne (nF f hf)).trans (s5 _ _ e)⟩
      refine ⟨_, s5 _ _ eF, ?_, fs ++ [G], fun b x e => (upd_ne (ne_of_none e hF)).trans (s5 _ _ (s4 _ _ e)), ?_, ?_, fun f hf => ?_⟩
      · rw [List.length_map, Paired.length RF, List.length_map, List.length_range]
        exact Nat.lt_of_lt_of_le hi (by decide)
      · rw [upd_same, List.map_append]
        rfl
      · rw [List.range_succ, List.map_append]
        exact RowsV.snoc ((upd_ne nGF).trans eG) (RowsV.mono RF fun f hf => (ff f hf).2)
      · rcases List.mem_append.mp hf with hf | hf
        · exact nF f hf
        · rw [List.mem_singleton.mp hf]
          exact nGF
    obtain ⟨fs, s4, eF, RF, _⟩ := hW
    have b4 := b3.trans (.of_same s4)
    have lF : fs.length = 12 := by rw [Paired.length RF, List.length_map, List.length_range]
    have tF : ∀ t ∈ tsF, t.length ≤ 4000 ∧ ∀ (G : Hp), ∀ y ∈ t, Kn G y := fun t ht => by
      obtain ⟨i, _, rfl⟩ := List.mem_map.mp ht
      refine ⟨by rw [List.length_map]; exact Nat.le_trans (rowF_len i 12) (by decide), fun G y hy => ?_⟩
      obtain ⟨z, _, rfl⟩ := List.mem_map.mp hy
      exact trivial
    have JF : Jv H' (.ref F) true := jv_rows eF RF (by omega) (fun t ht => ⟨(tF t ht).1, (tF t ht).2 H'⟩) siteV_full
    have EF : H' F = some (.lst (fs.map V.ref)) := eF
    clear s4 b3
    -- nested
    refine ⟨(by show 1 ≤ sizeLine; decide), fun N0 hN0 => ?_⟩
    have sN := same_new (o := .lst [.int 0]) hN0
    refine ⟨37, rfl, by decide, by decide, for_range (n := 37) (fun i σ H4 => ∃ y3 y4 y5 y8 y9 y10, ∃ (N : Addr) (x : V), σ = [some (.ref p), some (.int most), some (.ref L), y3, y4, y5, some (.ref F), some (.ref N), y8, y9, y10] ∧ Same H' H4 ∧ H4 N = some (.lst [x]) ∧ Kn H4 x ∧
      (1 ≤ i → ∃ b y, x = .ref b ∧ H4 b = some (.lst [y]) ∧ Kn H4 y ∧ (2 ≤ i → ∃ c, y = .ref c))) ⟨_, _, _, _, _, _, N0, _, rfl, sN, upd_same, trivial, fun h => absurd h (by decide)⟩ (fun i σ H4 hi hW => ?_) (fun σ H4 hW => ?_)⟩
    case refine_1 =>
      obtain ⟨y3, y4, y5, y8, y9, y10, N, x, rfl, s5, eN, kx, hx⟩ := hW
      refine ⟨_, rfl, (by show 1 ≤ sizeLine; decide), fun M hM => ?_⟩
      have sM := same_new (o := .lst [.ref N]) hM
      refine ⟨_, _, _, _, _, _, M, _, rfl, s5.trans sM, upd_same, .inl ⟨_, sM _ _ eN⟩, fun _ => ⟨N, x, rfl, sM _ _ eN, kx.same sM, fun h2 => ?_⟩⟩
      obtain ⟨b, y, e, _⟩ := hx (by omega)
      exact ⟨b, e⟩
    obtain ⟨y3, y4, y5, y8, y9, y10, N, x, rfl, s5, eN, kx, hx⟩ := hW
    obtain ⟨b, y, rfl, eb, ky, hy⟩ := hx (by decide)
    obtain ⟨c, rfl⟩ := hy (by decide)
    have JN : Jv H4 (.ref N) false := jv_rows (as := [b]) (vs := [[.ref c]]) eN (.cons eb .nil) (by show 1 ≤ 4000; decide) (fun t ht => by
      rw [List.mem_singleton.mp ht]
      exact ⟨by show 1 ≤ 4000; decide, fun y hy => by rw [List.mem_singleton.mp hy]; exact ky⟩) (siteV_n c)
    have b5 := b4.trans (.of_same s5)
    have JF := JF.same s5
    have EF := s5 _ _ EF
    have RF : RowsV H4 fs tsF := RowsV.mono RF fun f hf o e => s5 _ _ e
    clear sN hN0 b4 s5 eF hx hF
    -- the values
    refine ⟨_, rfl, _, rfl, Nat.zero_le _, fun a1 f1 => ?_⟩
    have s5 := same_new (o := .lst []) f1
    have ea1 : upd H4 a1 (.lst []) a1 = some (.lst []) := upd_same
    generalize upd H4 a1 (.lst []) = H5 at s5 ea1 ⊢
    refine ⟨(by show 1 ≤ sizeLine; decide), fun a2 f2 => ?_⟩
    have s6 := same_new (o := .lst [.ref a1]) f2
    have ea2 : upd H5 a2 (.lst [.ref a1]) a2 = some (.lst [.ref a1]) := upd_same
    generalize upd H5 a2 (.lst [.ref a1]) = H6 at s6 ea2 ⊢
    refine ⟨F, a2, _, _, rfl, rfl, (s6 _ _ (s5 _ _ EF)), ea2, (by rw [List.length_map, lF]; show 13 ≤ sizeLine; decide), fun v2 g2 => ?_⟩
    have s7 := same_new (o := .lst (fs.map V.ref ++ [.ref a1])) g2
    have ev2 : upd H6 v2 (.lst (fs.map V.ref ++ [.ref a1])) v2 = some (.lst (fs.map V.ref ++ [.ref a1])) := upd_same
    generalize upd H6 v2 (.lst (fs.map V.ref ++ [.ref a1])) = H7 at s7 ev2 ⊢
    have RF2 : RowsV H7 fs tsF := RowsV.mono RF fun f hf o e => ((s5.trans s6).trans s7) _ _ e
    have ev2b : H7 v2 = some (.lst ((fs ++ [a1]).map V.ref)) := by
      rw [List.map_append]
      exact ev2
    have J2 : Jv H7 (.ref v2) false := jv_rows ev2b (RowsV.snoc (s7 _ _ (s6 _ _ ea1)) RF2) (by rw [List.length_append, lF]; show 13 ≤ 4000; decide) (fun t ht => by
      rcases List.mem_append.mp ht with h | h
      · exact ⟨(tF t h).1, (tF t h).2 _⟩
      · rw [List.mem_singleton.mp h]
        exact ⟨Nat.zero_le _, fun y hy => nomatch hy⟩) siteV_more
    have sg := ((s5.trans s6).trans s7)
    have JF := JF.same sg
    have JN := JN.same sg
    have b8 := b5.trans (.of_same sg)
    clear RF2 ev2b RF EF sg
    refine ⟨Nat.zero_le _, fun a3 f3 => ?_⟩
    have s8 := same_new (o := .lst []) f3
    have ea3 : upd H7 a3 (.lst []) a3 = some (.lst []) := upd_same
    generalize upd H7 a3 (.lst []) = H8 at s8 ea3 ⊢
    refine ⟨(by show 1 ≤ sizeLine; decide), fun a4 f4 => ?_⟩
    have s9 := same_new (o := .lst [.ref a3]) f4
    have ea4 : upd H8 a4 (.lst [.ref a3]) a4 = some (.lst [.ref a3]) := upd_same
    generalize upd H8 a4 (.lst [.ref a3]) = H9 at s9 ea4 ⊢
    refine ⟨a4, 12, _, rfl, rfl, ea4, by decide, by decide, (by show 1 * 12 ≤ sizeLine; decide), fun v3 g3 => ?_⟩
    have s10 := same_new (o := .lst (List.replicate (Int.toNat 12) [V.ref a3]).flatten) g3
    have ev3 : upd H9 v3 (.lst (List.replicate (Int.toNat 12) [V.ref a3]).flatten) v3 = some (.lst (List.replicate (Int.toNat 12) [V.ref a3]).flatten) := upd_same
    generalize upd H9 v3 (.lst (List.replicate (Int.toNat 12) [V.ref a3]).flatten) = H10 at s10 ev3 ⊢
    have J3 : Jv H10 (.ref v3) true := jv_rows (as := List.replicate 12 a3) (vs := List.replicate 12 []) ev3 (rowsV_rep (s10 _ _ (s9 _ _ ea3)) 12) (by rw [List.length_replicate]; decide) (fun t ht => by
      rw [List.eq_of_mem_replicate ht]
      exact ⟨Nat.zero_le _, fun y hy => nomatch hy⟩) siteV_12
    have sg := ((s8.trans s9).trans s10)
    have JF := JF.same sg
    have JN := JN.same sg
    have J2 := J2.same sg
    have b11 := b8.trans (.of_same sg)
    clear sg
    refine ⟨Nat.zero_le _, fun a5 f5 => ?_⟩
    have s11 := same_new (o := .lst []) f5
    have ea5 : upd H10 a5 (.lst []) a5 = some (.lst []) := upd_same
    generalize upd H10 a5 (.lst []) = H11 at s11 ea5 ⊢
    refine ⟨(by show 1 ≤ sizeLine; decide), fun a6 f6 => ?_⟩
    have s12 := same_new (o := .lst [.ref a5]) f6
    have ea6 : upd H11 a6 (.lst [.ref a5]) a6 = some (.lst [.ref a5]) := upd_same
    generalize upd H11 a6 (.lst [.ref a5]) = H12 at s12 ea6 ⊢
    refine ⟨a6, 13, _, rfl, rfl, ea6, by decide, by decide, (by show 1 * 13 ≤ sizeLine; decide), fun v4 g4 => ?_⟩
    have s13 := same_new (o := .lst (List.replicate (Int.toNat 13) [V.ref a5]).flatten) g4
    have ev4 : upd H12 v4 (.lst (List.replicate (Int.toNat 13) [V.ref a5]).flatten) v4 = some (.lst (List.replicate (Int.toNat 13) [V.ref a5]).flatten) := upd_same
    generalize upd H12 v4 (.lst (List.replicate (Int.toNat 13) [V.ref a5]).flatten) = H13 at s13 ev4 ⊢
    have J4 : Jv H13 (.ref v4) false := jv_rows (as := List.replicate 13 a5) (vs := List.replicate 13 []) ev4 (rowsV_rep (s13 _ _ (s12 _ _ ea5)) 13) (by rw [List.length_replicate]; decide) (fun t ht => by
      rw [List.eq_of_mem_replicate ht]
      exact ⟨Nat.zero_le _, fun y hy => nomatch hy⟩) siteV_13
    have sg := ((s11.trans s12).trans s13)
    have JF := JF.same sg
    have JN := JN.same sg
    have J2 := J2.same sg
    have J3 := J3.same sg
    have b14 := b11.trans (.of_same sg)
    clear sg
    refine ⟨(by show 1 ≤ sizeLine; decide), fun a7 fa7 => ?_⟩
    have s14 := same_new (o := .lst [.int 1]) fa7
    have ea7 : upd H13 a7 (.lst [.int 1]) a7 = some (.lst [.int 1]) := upd_same
    generalize upd H13 a7 (.lst [.int 1]) = H14 at s14 ea7 ⊢
    refine ⟨(by show 1 ≤ sizeLine; decide), fun a8 fa8 => ?_⟩
    have s15 := same_new (o := .lst [.bl true]) fa8
    have ea8 : upd H14 a8 (.lst [.bl true]) a8 = some (.lst [.bl true]) := upd_same
    generalize upd H14 a8 (.lst [.bl true]) = H15 at s15 ea8 ⊢
    refine ⟨(by show 2 ≤ sizeLine; decide), fun v5 g5 => ?_⟩
    have s16 := same_new (o := .lst [.ref a7, .ref a8]) g5
    have ev5 : upd H15 v5 (.lst [.ref a7, .ref a8]) v5 = some (.lst [.ref a7, .ref a8]) := upd_same
    generalize upd H15 v5 (.lst [.ref a7, .ref a8]) = H16 at s16 ev5 ⊢
    have J5 : Jv H16 (.ref v5) false := jv_rows (as := [a7, a8]) (vs := [[.int 1], [.bl true]]) ev5 (.cons (s16 _ _ (s15 _ _ ea7)) (.cons (s16 _ _ ea8) (.nil))) (by show 2 ≤ 4000; decide) (fun t ht => by
      rcases List.mem_cons.mp ht with rfl | ht
      · exact ⟨by show 1 ≤ 4000; decide, fun y hy => by rw [List.mem_singleton.mp hy]; exact trivial⟩
      rw [List.mem_singleton.mp ht]
      exact ⟨by show 1 ≤ 4000; decide, fun y hy => by rw [List.mem_singleton.mp hy]; exact trivial⟩) siteV_a
    have sg := ((s14.trans s15).trans s16)
    have JF := JF.same sg
    have JN := JN.same sg
    have J2 := J2.same sg
    have J3 := J3.same sg
    have J4 := J4.same sg
    have b17 := b14.trans (.of_same sg)
    clear sg
    refine ⟨Nat.zero_le _, fun a9 fa9 => ?_⟩
    have s17 := same_new (o := .lst []) fa9
    have ea9 : upd H16 a9 (.lst []) a9 = some (.lst []) := upd_same
    generalize upd H16 a9 (.lst []) = H17 at s17 ea9 ⊢
    refine ⟨(by show 1 ≤ sizeLine; decide), fun a10 fa10 => ?_⟩
    have s18 := same_new (o := .lst [.int 0]) fa10
    have ea10 : upd H17 a10 (.lst [.int 0]) a10 = some (.lst [.int 0]) := upd_same
    generalize upd H17 a10 (.lst [.int 0]) = H18 at s18 ea10 ⊢
    refine ⟨(by show 2 ≤ sizeLine; decide), fun v6 g6 => ?_⟩
    have s19 := same_new (o := .lst [.ref a9, .ref a10]) g6
    have ev6 : upd H18 v6 (.lst [.ref a9, .ref a10]) v6 = some (.lst [.ref a9, .ref a10]) := upd_same
    generalize upd H18 v6 (.lst [.ref a9, .ref a10]) = H19 at s19 ev6 ⊢
    have J6 : Jv H19 (.ref v6) true := jv_rows (as := [a9, a10]) (vs := [[], [.int 0]]) ev6 (.cons (s19 _ _ (s18 _ _ ea9)) (.cons (s19 _ _ ea10) (.nil))) (by show 2 ≤ 4000; decide) (fun t ht => by
      rcases List.mem_cons.mp ht with rfl | ht
      · exact ⟨Nat.zero_le _, fun y hy => nomatch hy⟩
      rw [List.mem_singleton.mp ht]
      exact ⟨by show 1 ≤ 4000; decide, fun y hy => by rw [List.mem_singleton.mp hy]; exact trivial⟩) siteV_b
    have sg := ((s17.trans s18).trans s19)
    have JF := JF.same sg
    have JN := JN.same sg
    have J2 := J2.same sg
    have J3 := J3.same sg
    have J4 := J4.same sg
    have J5 := J5.same sg
    have b20 := b17.trans (.of_same sg)
    clear sg
    refine ⟨(by show 1 ≤ sizeLine; decide), fun a11 fa11 => ?_⟩
    have s20 := same_new (o := .lst [.int 0]) fa11
    have ea11 : upd H19 a11 (.lst [.int 0]) a11 = some (.lst [.int 0]) := upd_same
    generalize upd H19 a11 (.lst [.int 0]) = H20 at s20 ea11 ⊢
    refine ⟨(by show 1 ≤ sizeLine; decide), fun v7 g7 => ?_⟩
    have s21 := same_new (o := .lst [.ref a11]) g7
    have ev7 : upd H20 v7 (.lst [.ref a11]) v7 = some (.lst [.ref a11]) := upd_same
    generalize upd H20 v7 (.lst [.ref a11]) = H21 at s21 ev7 ⊢
    have J7 : Jv H21 (.ref v7) false := jv_rows (as := [a11]) (vs := [[.int 0]]) ev7 (.cons (s21 _ _ ea11) (.nil)) (by show 1 ≤ 4000; decide) (fun t ht => by
      rw [List.mem_singleton.mp ht]
      exact ⟨by show 1 ≤ 4000; decide, fun y hy => by rw [List.mem_singleton.mp hy]; exact trivial⟩) siteV_c
    have sg := (s20.trans s21)
    have JF := JF.same sg
    have JN := JN.same sg
    have J2 := J2.same sg
    have J3 := J3.same sg
    have J4 := J4.same sg
    have J5 := J5.same sg
    have J6 := J6.same sg
    have b22 := b20.trans (.of_same sg)
    clear sg
    refine ⟨_, rfl, (by show 1 ≤ sizeLine; decide), fun a12 fa12 => ?_⟩
    have s22 := same_new (o := .lst [.int 1]) fa12
    have ea12 : upd H21 a12 (.lst [.int 1]) a12 = some (.lst [.int 1]) := upd_same
    generalize upd H21 a12 (.lst [.int 1]) = H22 at s22 ea12 ⊢
    refine ⟨(by show 1 ≤ sizeLine; decide), fun a13 fa13 => ?_⟩
    have s23 := same_new (o := .lst [.int 0]) fa13
    have ea13 : upd H22 a13 (.lst [.int 0]) a13 = some (.lst [.int 0]) := upd_same
    generalize upd H22 a13 (.lst [.int 0]) = H23 at s23 ea13 ⊢
    refine ⟨(by show 1 ≤ sizeLine; decide), fun a14 fa14 => ?_⟩
    have s24 := same_new (o := .lst [.int 2]) fa14
    have ea14 : upd H23 a14 (.lst [.int 2]) a14 = some (.lst [.int 2]) := upd_same
    generalize upd H23 a14 (.lst [.int 2]) = H24 at s24 ea14 ⊢
    refine ⟨(by show 3 ≤ sizeLine; decide), fun v8 g8 => ?_⟩
    have s25 := same_new (o := .lst [.ref a12, .ref a13, .ref a14]) g8
    have ev8 : upd H24 v8 (.lst [.ref a12, .ref a13, .ref a14]) v8 = some (.lst [.ref a12, .ref a13, .ref a14]) := upd_same
    generalize upd H24 v8 (.lst [.ref a12, .ref a13, .ref a14]) = H25 at s25 ev8 ⊢
    have J8 : Jv H25 (.ref v8) false := jv_rows (as := [a12, a13, a14]) (vs := [[.int 1], [.int 0], [.int 2]]) ev8 (.cons (s25 _ _ (s24 _ _ (s23 _ _ ea12))) (.cons (s25 _ _ (s24 _ _ ea13)) (.cons (s25 _ _ ea14) (.nil)))) (by show 3 ≤ 4000; decide) (fun t ht => by
      rcases List.mem_cons.mp ht with rfl | ht
      · exact ⟨by show 1 ≤ 4000; decide, fun y hy => by rw [List.mem_singleton.mp hy]; exact trivial⟩
      rcases List.mem_cons.mp ht with rfl | ht
      · exact ⟨by show 1 ≤ 4000; decide, fun y hy => by rw [List.mem_singleton.mp hy]; exact trivial⟩
      rw [List.mem_singleton.mp ht]
      exact ⟨by show 1 ≤ 4000; decide, fun y hy => by rw [List.mem_singleton.mp hy]; exact trivial⟩) siteV_d
    have sg := (((s22.trans s23).trans s24).trans s25)
    have JF := JF.same sg
    have JN := JN.same sg
    have J2 := J2.same sg
    have J3 := J3.same sg
    have J4 := J4.same sg
    have J5 := J5.same sg
    have J6 := J6.same sg
    have J7 := J7.same sg
    have b26 := b22.trans (.of_same sg)
    clear sg
    refine ⟨(by show 9 ≤ sizeLine; decide), fun S fS => ?_⟩
    have s26 := same_new (o := .lst [V.ref F, .ref v2, .ref v3, .ref v4, .ref v5, .ref v6, .ref v7, .ref N, .ref v8]) fS
    have eS : upd H25 S (.lst [V.ref F, .ref v2, .ref v3, .ref v4, .ref v5, .ref v6, .ref v7, .ref N, .ref v8]) S = some (.lst [V.ref F, .ref v2, .ref v3, .ref v4, .ref v5, .ref v6, .ref v7, .ref N, .ref v8]) := upd_same
    generalize upd H25 S (.lst [V.ref F, .ref v2, .ref v3, .ref v4, .ref v5, .ref v6, .ref v7, .ref N, .ref v8]) = H26 at s26 eS ⊢
    have sg := s26
    have JF := JF.same sg
    have JN := JN.same sg
    have J2 := J2.same sg
    have J3 := J3.same sg
    have J4 := J4.same sg
    have J5 := J5.same sg
    have J6 := J6.same sg
    have J7 := J7.same sg
    have J8 := J8.same sg
    have b27 := b26.trans (.of_same sg)
    have hxs : ([V.ref F, .ref v2, .ref v3, .ref v4, .ref v5, .ref v6, .ref v7, .ref N, .ref v8]).map (fun v => V.bl (siteB H26 v)) = ([true, false, true, false, false, true, false, false, false] : List Bool).map V.bl := by
      show [V.bl (siteB H26 (.ref F)), .bl (siteB H26 (.ref v2)), .bl (siteB H26 (.ref v3)), .bl (siteB H26 (.ref v4)), .bl (siteB H26 (.ref v5)), .bl (siteB H26 (.ref v6)), .bl (siteB H26 (.ref v7)), .bl (siteB H26 (.ref N)), .bl (siteB H26 (.ref v8))] = _
      rw [JF.2, J2.2, J3.2, J4.2, J5.2, J6.2, J7.2, JN.2, J8.2]
      rfl
    have oks : ∀ v ∈ [V.ref F, .ref v2, .ref v3, .ref v4, .ref v5, .ref v6, .ref v7, .ref N, .ref v8], Ok2 H26 v := by
      intro v hv
      rcases List.mem_cons.mp hv with rfl | hv
      · exact JF.1
      rcases List.mem_cons.mp hv with rfl | hv
      · exact J2.1
      rcases List.mem_cons.mp hv with rfl | hv
      · exact J3.1
      rcases List.mem_cons.mp hv with rfl | hv
      · exact J4.1
      rcases List.mem_cons.mp hv with rfl | hv
      · exact J5.1
      rcases List.mem_cons.mp hv with rfl | hv
      · exact J6.1
      rcases List.mem_cons.mp hv with rfl | hv
      · exact J7.1
      rcases List.mem_cons.mp hv with rfl | hv
      · exact JN.1
      rw [List.mem_singleton.mp hv]
      exact J8.1
    have hl9 : ([V.ref F, .ref v2, .ref v3, .ref v4, .ref v5, .ref v6, .ref v7, .ref N, .ref v8]).length = 9 := rfl
    generalize [V.ref F, .ref v2, .ref v3, .ref v4, .ref v5, .ref v6, .ref v7, .ref N, .ref v8] = xs at hxs oks hl9 eS ⊢
    refine ⟨.ref S, rfl, S, rfl, ⟨_, .inl (.inl eS)⟩, fun D hD => lc_list (xs := xs) (fun i G => Same H26 G ∧ G D = some (.lst ((xs.take i).map fun v => V.bl (siteB H26 v)))) ⟨same_new hD, upd_same⟩ (fun i G _ hp => .inl (.inl (hp.1 _ _ eS))) (fun i v G hv hp => ?_) (fun G hp => ?_)⟩
    · obtain ⟨s1, eD⟩ := hp
      have ok := oks v (List.mem_of_getElem? hv)
      refine ⟨rfl, _, rfl, v, rfl, ok2_same s1 ok, fun G2 s2 => ⟨_, s2 _ _ eD, ?_, fun b o e => (upd_ne (ne_of_none e hD)).trans (s2 _ _ (s1 _ _ e)), ?_⟩⟩
      · rw [List.length_map, List.length_take]
        exact Nat.lt_of_le_of_lt (show min i xs.length ≤ 9 by omega) (by decide)
      · rw [upd_same, siteB_same s1 ok, List.take_add_one, hv, List.map_append]
        rfl
    obtain ⟨s1, eD⟩ := hp
    rw [List.take_length, hxs] at eD
    refine ⟨(by show 9 ≤ sizeLine; decide), fun Z hZ => ⟨bD [true, false, true, false, false, true, false, false, false], bD [true, false, true, false, false, true, false, false, false], dp_bD (.inl (.inl (same_new hZ _ _ eD))), dp_bD (.inl (.inl upd_same)), (by decide +kernel), (by decide +kernel), ?_⟩⟩
    rw [show PyData.eqv (bD [true, false, true, false, false, true, false, false, false]) (bD [true, false, true, false, false, true, false, false, false]) = true by decide +kernel]
    exact q _ ((b27.trans (.of_same s1)).trans (.of_same (same_new hZ)))
def sp__law_source (K : PySem.W.Frag) : Sp := fun vs H Q _ => ∃ (c : Int) (k : Nat), vs = [.int c, .int k] ∧ k ≤ 100 ∧ ∀ H' p, Same H H' → H p = none → Pl H' p 0 → Q (.ref p) H'
theorem ok__law_source (T : Top K mg) :
    FnOk P w K mg base CX0 1 T.a__law_source T.d__law_source ["_law_cell", "_law_k"] (sp__law_source K) := by
  refine T.F__law_source.ok sc__law_source (fun vs H Q E h => ?_) (fun cdv A outer s H vs Q E hr h => ?_)
  · obtain ⟨c, k, rfl, _⟩ := h
    rfl
  · obtain ⟨c, k, rfl, hk, q⟩ := h
    have nd := sc__law_source.nd
    have hu := hu_of hr
    have hU := units_of hr
    have hu64 := u64_of hr
    refine ⟨_, (pss_one (ps_ret (pe_lst (pa_cons (pe_callB (call_max2 rfl) (by rfl) T.n_max (by decide +kernel) (pa_cons pe_int (pa_cons (pe_op op_sub (pv 0) (pe_op op_pow pe_int pe_int)) pa_nil))) (pa_cons (pe_op op_add (pe_op op_mul (pe_op op_mod (pv 0) (pe_op op_add (pe_op op_pow pe_int pe_int) pe_int)) pe_int) (pv 1)) (pa_cons pe_int pa_nil)))))), ?_⟩
    refine ⟨_, rfl, _, _, rfl, rfl, pow_ok 18 (by decide) (by decide), _, _, rfl, rfl, _, _, rfl, ?_⟩
    refine ⟨_, rfl, _, _, rfl, rfl, pow_ok 33 (by decide) (by decide), _, _, rfl, rfl, _, _, rfl, rfl, (by show (0 : Int) < _; rw [pw33]; decide), _, _, rfl, rfl, .inr ⟨by decide, by decide⟩, _, rfl, _, _, rfl, rfl, (by show 3 ≤ sizeLine; decide), fun pp hp => ?_⟩
    refine q _ pp (same_new hp) hp ⟨_, _, _, upd_same, ?_, ?_, ?_, by omega, by omega⟩
    · split <;> omega
    · rw [pw33]
      omega
    · rw [pw33, e2_160]
      omega
def sp_law (K : PySem.W.Frag) : Sp := fun vs H Q _ => ∃ (a : Addr) (ns : List Int), vs = [.ref a] ∧ SqL K H a (ns.map V.int) ∧ ns.length ≤ 63 ∧ (∀ b, H b ≠ none → b = a) ∧ ∀ H', Q (.bl true) H'
theorem ok_law (T : Top K mg)
    (G__law_holds : FnG P w K mg base CX0 7 T.a__law_holds T.d__law_holds ["_law_source_here", "_law_most"] (sp__law_holds K))
    (G__law_source : FnOk P w K mg base CX0 1 T.a__law_source T.d__law_source ["_law_cell", "_law_k"] (sp__law_source K)) :
    FnG P w K mg base CX0 8 T.a_law T.d_law ["_law_script"] (sp_law K) := by
  refine Fun_okG T.F_law sc_law (fun vs H Q E h => ?_) (fun cdv A outer s H vs Q E hG hr h => ?_)
  · obtain ⟨a, ns, rfl, _⟩ := h
    rfl
  · obtain ⟨a, ns, rfl, hS, hl, one, q⟩ := h
    have nd := sc_law.nd
    have hu := hu_of hr
    have hU := units_of hr
    have hu64 := u64_of hr
    refine ⟨_, (pss_cons (ps_for PassesOwn.never rfl (pi_enum (by rfl) T.n_enumerate (pa_cons (pe_slice sl_list (pe_op op_catL (pv 0) (pe_lst (pa_cons pe_int pa_nil))) po_none (po_some (pe_callB (call_max2 rfl) (by rfl) T.n_max (by decide +kernel) (pa_cons pe_int (pa_cons (pe_callB (call_min2 rfl) (by rfl) T.n_min (by decide +kernel) (pa_cons (pe_callB call_len_seq (by rfl) T.n_len (by decide +kernel) (pa_cons (pv 0) pa_nil)) (pa_cons pe_int pa_nil))) pa_nil))))) pa_nil)) (pg_tup rfl (pgs_cons (pg_name (i := 1) nd rfl (Or.inl rfl)) (pgs_cons (pg_name (i := 2) nd rfl (Or.inl rfl)) pgs_nil))) (pss_one (ps_if (pt_not (pt_val (pe_callG G__law_holds hG (hr.mono (by decide)) (by rfl) T.g__law_holds T.F__law_holds.kp T.b__law_holds .nil pass0 (pa_cons (pe_call G__law_source (hr.mono (by decide)) (by rfl) T.g__law_source T.F__law_source.kp T.b__law_source .nil pass0 (pa_cons (pv 2) (pa_cons (pv 1) pa_nil))) (pa_cons (pe_ifExp (pt_cmpR (op_eqD hu64) (pv 0) (pe_lst pa_nil) (nomark _)) pe_int pe_int) pa_nil))))) (pss_one (ps_ret pe_bl)) pss_nil)))
      (pss_one (ps_ret pe_bl))), ?_⟩
    refine ⟨_, rfl, (by show 1 ≤ sizeLine; decide), fun z fz => ?_⟩
    have sz := same_new (o := .lst [.int 0]) fz
    refine ⟨a, z, _, _, rfl, rfl, sz.seq hS, .inl (.inl upd_same), (by rw [List.length_map]; exact Nat.le_trans (show ns.length + 1 ≤ 64 by omega) (by decide)), fun c fc => ?_⟩
    have sc := same_new (o := .lst (ns.map V.int ++ [.int 0])) fc
    have ec : upd (upd H z (.lst [.int 0])) c (.lst (ns.map V.int ++ [.int 0])) c = some (.lst (ns.map V.int ++ [.int 0])) := upd_same
    have s2 := sz.trans sc
    generalize upd (upd H z (.lst [.int 0])) c (.lst (ns.map V.int ++ [.int 0])) = H2 at ec s2 ⊢
    refine ⟨.ref a, rfl, a, _, rfl, .inl (s2.seq hS), _, _, rfl, _, _, rfl, _, rfl, c, _, rfl, .inl (.inl ec), fun d fd => ?_⟩
    obtain ⟨k, hk, k1, k2⟩ : ∃ k : Nat, (if (if (24 : Int) < ((ns.map V.int).length : Nat) then 24 else (((ns.map V.int).length : Nat) : Int)) > 1 then (if (24 : Int) < ((ns.map V.int).length : Nat) then 24 else (((ns.map V.int).length : Nat) : Int)) else 1) = (k : Int) ∧ 1 ≤ k ∧ k ≤ 24 := by
      have h0 : ∀ m : Int, 1 ≤ m → m ≤ 24 → ∃ k : Nat, m = (k : Int) ∧ 1 ≤ k ∧ k ≤ 24 := fun m h1 h2 => by
        obtain ⟨k, rfl⟩ := Int.eq_ofNat_of_zero_le (show 0 ≤ m by omega)
        exact ⟨k, rfl, by omega, by omega⟩
      refine h0 _ ?_ ?_
      · split <;> omega
      · split <;> split <;> omega
    rw [hk, cut_to]
    have em : ns.map V.int ++ [V.int 0] = (ns ++ [0]).map V.int := by rw [List.map_append]; rfl
    rw [em, ← List.map_take]
    have hcl : ((ns ++ [0]).take k).length ≤ 24 := by rw [List.length_take]; omega
    have s3 := s2.trans (same_new (o := .lst (((ns ++ [0]).take k).map V.int)) fd)
    have ed : upd H2 d (.lst (((ns ++ [0]).take k).map V.int)) d = some (.lst (((ns ++ [0]).take k).map V.int)) := upd_same
    generalize (ns ++ [0]).take k = cells at hcl s3 ed ⊢
    generalize upd H2 d (.lst (cells.map V.int)) = H3 at s3 ed ⊢
    refine ⟨d, _, rfl, .inl (.inl ed), for_enum (xs := cells.map V.int) (fun i σ H4 => Same H3 H4 ∧ ∃ y1 y2, σ = [some (.ref a), y1, y2]) ⟨Same.refl _, _, _, rfl⟩ (fun i σ H4 _ hW => .inl (.inl (hW.1 _ _ ed))) (fun i x σ H4 T hi hW hT => ?_) (fun σ H4 hW => ?_)⟩
    · obtain ⟨s4, y1, y2, rfl⟩ := hW
      obtain ⟨cell, hc, rfl⟩ := at_nums hi
      have hil : i < cells.length := (List.getElem?_eq_some_iff.mp hc).1
      refine ⟨T, _, rfl, .inl (.inl upd_same), rfl, _, _, rfl, _, [], rfl, rfl, ?_⟩
      have s5 := s4.trans (same_new (o := .tup [.int (i : Nat), .int cell]) hT)
      generalize upd H4 T (.tup [.int (i : Nat), .int cell]) = H5 at s5 ⊢
      refine ⟨_, rfl, _, rfl, cell, i, rfl, by omega, fun H6 p s6 fp P => ?_⟩
      have s7 := s5.trans s6
      have fp3 : H3 p = none := s5.free fp
      refine ⟨.ref a, rfl, Nat.zero_le _, fun Z hZ => ?_⟩
      have sZ := same_new (o := .lst []) hZ
      refine ⟨nD ns, nD [], dp_nD (((s3.trans s7).trans sZ).seq hS), dp_nD (.inl (.inl upd_same)), nD_shaped _, nD_shaped _, _, rfl, ?_⟩
      have fin : ∀ H7, But p (upd H6 Z (.lst [])) H7 → Same H3 H7 := fun H7 b v o e => b v o (ne_of_none e fp3) (sZ _ _ (s7 _ _ e))
      refine ite2 (fun _ => ?_) (fun _ => ?_)
      · refine ⟨p, 4, 0, rfl, P.same sZ, by decide, by decide, by decide, fun H7 b => ⟨_, rfl, ?_⟩⟩
        show if (!true) = true then _ else _
        exact iteF ⟨fin H7 b, _, _, rfl⟩
      · refine ⟨p, 12, 0, rfl, P.same sZ, by decide, by decide, by decide, fun H7 b => ⟨_, rfl, ?_⟩⟩
        show if (!true) = true then _ else _
        exact iteF ⟨fin H7 b, _, _, rfl⟩
    · exact q H4
end
section
variable {l : PySem.W.OpenLaw} {w : World} {K : PySem.W.Frag} {h : Heap} {mg : PySem.Str → Option Value}
theorem all_mk {fa : Addr} (X : K.In h) (G : h.Ns mainGlobals mg) (hfa : mg "law" = some (.ref fa))
    {f__law_draw : Addr} {od__law_draw an__law_draw : Option Addr} {sl__law_draw : Array (Option Value)} {oc__law_draw kV__law_draw dc__law_draw pm__law_draw cd__law_draw ct__law_draw : Value}
    (a__law_draw : PySem.W.nsIn K mainGlobals "_law_draw" = some (some (.ref f__law_draw)))
    (l__law_draw : K.lookup f__law_draw = some ⟨oc__law_draw, od__law_draw, .func (PySem.W.fnOf "_law_draw" "_law_draw" (defArgs s__law_draw) (defBody s__law_draw) (defScope s__law_draw) .none kV__law_draw dc__law_draw pm__law_draw an__law_draw cd__law_draw ct__law_draw), sl__law_draw⟩)
    (c__law_draw : PySem.W.codeIn K cd__law_draw "_law_draw" = true) (k__law_draw : PySem.W.keepIn K (.ref f__law_draw) = true)
    {f__law_net : Addr} {od__law_net an__law_net : Option Addr} {sl__law_net : Array (Option Value)} {oc__law_net kV__law_net dc__law_net pm__law_net cd__law_net ct__law_net : Value}
    (a__law_net : PySem.W.nsIn K mainGlobals "_law_net" = some (some (.ref f__law_net)))
    (l__law_net : K.lookup f__law_net = some ⟨oc__law_net, od__law_net, .func (PySem.W.fnOf "_law_net" "_law_net" (defArgs s__law_net) (defBody s__law_net) (defScope s__law_net) .none kV__law_net dc__law_net pm__law_net an__law_net cd__law_net ct__law_net), sl__law_net⟩)
    (c__law_net : PySem.W.codeIn K cd__law_net "_law_net" = true) (k__law_net : PySem.W.keepIn K (.ref f__law_net) = true)
    {f_is_int : Addr} {od_is_int an_is_int : Option Addr} {sl_is_int : Array (Option Value)} {oc_is_int kV_is_int dc_is_int pm_is_int cd_is_int ct_is_int : Value}
    (a_is_int : PySem.W.nsIn K mainGlobals "is_int" = some (some (.ref f_is_int)))
    (l_is_int : K.lookup f_is_int = some ⟨oc_is_int, od_is_int, .func (PySem.W.fnOf "is_int" "is_int" (defArgs s_is_int) (defBody s_is_int) (defScope s_is_int) .none kV_is_int dc_is_int pm_is_int an_is_int cd_is_int ct_is_int), sl_is_int⟩)
    (c_is_int : PySem.W.codeIn K cd_is_int "is_int" = true) (k_is_int : PySem.W.keepIn K (.ref f_is_int) = true)
    {f_is_between : Addr} {od_is_between an_is_between : Option Addr} {sl_is_between : Array (Option Value)} {oc_is_between kV_is_between dc_is_between pm_is_between cd_is_between ct_is_between : Value}
    (a_is_between : PySem.W.nsIn K mainGlobals "is_between" = some (some (.ref f_is_between)))
    (l_is_between : K.lookup f_is_between = some ⟨oc_is_between, od_is_between, .func (PySem.W.fnOf "is_between" "is_between" (defArgs s_is_between) (defBody s_is_between) (defScope s_is_between) .none kV_is_between dc_is_between pm_is_between an_is_between cd_is_between ct_is_between), sl_is_between⟩)
    (c_is_between : PySem.W.codeIn K cd_is_between "is_between" = true) (k_is_between : PySem.W.keepIn K (.ref f_is_between) = true)
    {f_are_pages : Addr} {od_are_pages an_are_pages : Option Addr} {sl_are_pages : Array (Option Value)} {oc_are_pages kV_are_pages dc_are_pages pm_are_pages cd_are_pages ct_are_pages : Value}
    (a_are_pages : PySem.W.nsIn K mainGlobals "are_pages" = some (some (.ref f_are_pages)))
    (l_are_pages : K.lookup f_are_pages = some ⟨oc_are_pages, od_are_pages, .func (PySem.W.fnOf "are_pages" "are_pages" (defArgs s_are_pages) (defBody s_are_pages) (defScope s_are_pages) .none kV_are_pages dc_are_pages pm_are_pages an_are_pages cd_are_pages ct_are_pages), sl_are_pages⟩)
    (c_are_pages : PySem.W.codeIn K cd_are_pages "are_pages" = true) (k_are_pages : PySem.W.keepIn K (.ref f_are_pages) = true)
    {f__are_links : Addr} {od__are_links an__are_links : Option Addr} {sl__are_links : Array (Option Value)} {oc__are_links kV__are_links dc__are_links pm__are_links cd__are_links ct__are_links : Value}
    (a__are_links : PySem.W.nsIn K mainGlobals "_are_links" = some (some (.ref f__are_links)))
    (l__are_links : K.lookup f__are_links = some ⟨oc__are_links, od__are_links, .func (PySem.W.fnOf "_are_links" "_are_links" (defArgs s__are_links) (defBody s__are_links) (defScope s__are_links) .none kV__are_links dc__are_links pm__are_links an__are_links cd__are_links ct__are_links), sl__are_links⟩)
    (c__are_links : PySem.W.codeIn K cd__are_links "_are_links" = true) (k__are_links : PySem.W.keepIn K (.ref f__are_links) = true)
    {f_is_site : Addr} {od_is_site an_is_site : Option Addr} {sl_is_site : Array (Option Value)} {oc_is_site kV_is_site dc_is_site pm_is_site cd_is_site ct_is_site : Value}
    (a_is_site : PySem.W.nsIn K mainGlobals "is_site" = some (some (.ref f_is_site)))
    (l_is_site : K.lookup f_is_site = some ⟨oc_is_site, od_is_site, .func (PySem.W.fnOf "is_site" "is_site" (defArgs s_is_site) (defBody s_is_site) (defScope s_is_site) .none kV_is_site dc_is_site pm_is_site an_is_site cd_is_site ct_is_site), sl_is_site⟩)
    (c_is_site : PySem.W.codeIn K cd_is_site "is_site" = true) (k_is_site : PySem.W.keepIn K (.ref f_is_site) = true)
    {f__law_is_net : Addr} {od__law_is_net an__law_is_net : Option Addr} {sl__law_is_net : Array (Option Value)} {oc__law_is_net kV__law_is_net dc__law_is_net pm__law_is_net cd__law_is_net ct__law_is_net : Value}
    (a__law_is_net : PySem.W.nsIn K mainGlobals "_law_is_net" = some (some (.ref f__law_is_net)))
    (l__law_is_net : K.lookup f__law_is_net = some ⟨oc__law_is_net, od__law_is_net, .func (PySem.W.fnOf "_law_is_net" "_law_is_net" (defArgs s__law_is_net) (defBody s__law_is_net) (defScope s__law_is_net) .none kV__law_is_net dc__law_is_net pm__law_is_net an__law_is_net cd__law_is_net ct__law_is_net), sl__law_is_net⟩)
    (c__law_is_net : PySem.W.codeIn K cd__law_is_net "_law_is_net" = true) (k__law_is_net : PySem.W.keepIn K (.ref f__law_is_net) = true)
    {f__law_checked : Addr} {od__law_checked an__law_checked : Option Addr} {sl__law_checked : Array (Option Value)} {oc__law_checked kV__law_checked dc__law_checked pm__law_checked cd__law_checked ct__law_checked : Value}
    (a__law_checked : PySem.W.nsIn K mainGlobals "_law_checked" = some (some (.ref f__law_checked)))
    (l__law_checked : K.lookup f__law_checked = some ⟨oc__law_checked, od__law_checked, .func (PySem.W.fnOf "_law_checked" "_law_checked" (defArgs s__law_checked) (defBody s__law_checked) (defScope s__law_checked) .none kV__law_checked dc__law_checked pm__law_checked an__law_checked cd__law_checked ct__law_checked), sl__law_checked⟩)
    (c__law_checked : PySem.W.codeIn K cd__law_checked "_law_checked" = true) (k__law_checked : PySem.W.keepIn K (.ref f__law_checked) = true)
    {f__law_bad_net : Addr} {od__law_bad_net an__law_bad_net : Option Addr} {sl__law_bad_net : Array (Option Value)} {oc__law_bad_net kV__law_bad_net dc__law_bad_net pm__law_bad_net cd__law_bad_net ct__law_bad_net : Value}
    (a__law_bad_net : PySem.W.nsIn K mainGlobals "_law_bad_net" = some (some (.ref f__law_bad_net)))
    (l__law_bad_net : K.lookup f__law_bad_net = some ⟨oc__law_bad_net, od__law_bad_net, .func (PySem.W.fnOf "_law_bad_net" "_law_bad_net" (defArgs s__law_bad_net) (defBody s__law_bad_net) (defScope s__law_bad_net) .none kV__law_bad_net dc__law_bad_net pm__law_bad_net an__law_bad_net cd__law_bad_net ct__law_bad_net), sl__law_bad_net⟩)
    (c__law_bad_net : PySem.W.codeIn K cd__law_bad_net "_law_bad_net" = true) (k__law_bad_net : PySem.W.keepIn K (.ref f__law_bad_net) = true)
    {f__law_holds : Addr} {od__law_holds an__law_holds : Option Addr} {sl__law_holds : Array (Option Value)} {oc__law_holds kV__law_holds dc__law_holds pm__law_holds cd__law_holds ct__law_holds : Value}
    (a__law_holds : PySem.W.nsIn K mainGlobals "_law_holds" = some (some (.ref f__law_holds)))
    (l__law_holds : K.lookup f__law_holds = some ⟨oc__law_holds, od__law_holds, .func (PySem.W.fnOf "_law_holds" "_law_holds" (defArgs s__law_holds) (defBody s__law_holds) (defScope s__law_holds) .none kV__law_holds dc__law_holds pm__law_holds an__law_holds cd__law_holds ct__law_holds), sl__law_holds⟩)
    (c__law_holds : PySem.W.codeIn K cd__law_holds "_law_holds" = true) (k__law_holds : PySem.W.keepIn K (.ref f__law_holds) = true)
    {f__law_source : Addr} {od__law_source an__law_source : Option Addr} {sl__law_source : Array (Option Value)} {oc__law_source kV__law_source dc__law_source pm__law_source cd__law_source ct__law_source : Value}
    (a__law_source : PySem.W.nsIn K mainGlobals "_law_source" = some (some (.ref f__law_source)))
    (l__law_source : K.lookup f__law_source = some ⟨oc__law_source, od__law_source, .func (PySem.W.fnOf "_law_source" "_law_source" (defArgs s__law_source) (defBody s__law_source) (defScope s__law_source) .none kV__law_source dc__law_source pm__law_source an__law_source cd__law_source ct__law_source), sl__law_source⟩)
    (c__law_source : PySem.W.codeIn K cd__law_source "_law_source" = true) (k__law_source : PySem.W.keepIn K (.ref f__law_source) = true)
    {f_law : Addr} {od_law an_law : Option Addr} {sl_law : Array (Option Value)} {oc_law kV_law dc_law pm_law cd_law ct_law : Value}
    (a_law : PySem.W.nsIn K mainGlobals "law" = some (some (.ref f_law)))
    (l_law : K.lookup f_law = some ⟨oc_law, od_law, .func (PySem.W.fnOf "law" "law" (defArgs s_law) (defBody s_law) (defScope s_law) .none kV_law dc_law pm_law an_law cd_law ct_law), sl_law⟩)
    (c_law : PySem.W.codeIn K cd_law "law" = true) (k_law : PySem.W.keepIn K (.ref f_law) = true)
    {t_MOST_PAGES : Tok} (v_MOST_PAGES : PySem.W.nsIn K mainGlobals "MOST_PAGES" = some (some (.int (12) t_MOST_PAGES)))
    (z_range : PySem.W.nsIn K mainGlobals "range" = some none)
    (z_int : PySem.W.nsIn K mainGlobals "int" = some none)
    (z_min : PySem.W.nsIn K mainGlobals "min" = some none)
    (z_abs : PySem.W.nsIn K mainGlobals "abs" = some none)
    (z_isinstance : PySem.W.nsIn K mainGlobals "isinstance" = some none)
    (z_bool : PySem.W.nsIn K mainGlobals "bool" = some none)
    (z_list : PySem.W.nsIn K mainGlobals "list" = some none)
    (z_all : PySem.W.nsIn K mainGlobals "all" = some none)
    (z_sorted : PySem.W.nsIn K mainGlobals "sorted" = some none)
    (z_set : PySem.W.nsIn K mainGlobals "set" = some none)
    (z_len : PySem.W.nsIn K mainGlobals "len" = some none)
    (z_enumerate : PySem.W.nsIn K mainGlobals "enumerate" = some none)
    (z_repr : PySem.W.nsIn K mainGlobals "repr" = some none)
    (z_tuple : PySem.W.nsIn K mainGlobals "tuple" = some none)
    (z_max : PySem.W.nsIn K mainGlobals "max" = some none) :
    ∃ fd : FuncData, (∀ (s : Shared) (v : Value), BindsTo s fd ⟨[v], []⟩ [("_law_script", v)]) ∧ ∀ base : Heap, K.In base → base.Ns mainGlobals mg → FnG l.prog w K mg base CX0 8 fa fd ["_law_script"] (sp_law K) := by
  have e := hfa.symm.trans (PySem.W.mg_of X G a_law)
  cases e
  let T : Top K mg := {
    a__law_draw := f__law_draw, d__law_draw := _, F__law_draw := fun_mk l__law_draw c__law_draw k__law_draw, g__law_draw := PySem.W.mg_of X G a__law_draw,
    b__law_draw := (fun_mk (st := s__law_draw) l__law_draw c__law_draw k__law_draw).binds (ps := ["_law_source_here", "_law_count"]) fun _ _ _ _ _ _ us hl => match us, hl with | [_, _], _ => rfl,
    a__law_net := f__law_net, d__law_net := _, F__law_net := fun_mk l__law_net c__law_net k__law_net, g__law_net := PySem.W.mg_of X G a__law_net,
    b__law_net := (fun_mk (st := s__law_net) l__law_net c__law_net k__law_net).binds (ps := ["_law_source_here", "_law_most"]) fun _ _ _ _ _ _ us hl => match us, hl with | [_, _], _ => rfl,
    a_is_int := f_is_int, d_is_int := _, F_is_int := fun_mk l_is_int c_is_int k_is_int, g_is_int := PySem.W.mg_of X G a_is_int,
    b_is_int := (fun_mk (st := s_is_int) l_is_int c_is_int k_is_int).binds (ps := ["value"]) fun _ _ _ _ _ _ us hl => match us, hl with | [_], _ => rfl,
    a_is_between := f_is_between, d_is_between := _, F_is_between := fun_mk l_is_between c_is_between k_is_between, g_is_between := PySem.W.mg_of X G a_is_between,
    b_is_between := (fun_mk (st := s_is_between) l_is_between c_is_between k_is_between).binds (ps := ["value", "low", "high"]) fun _ _ _ _ _ _ us hl => match us, hl with | [_, _, _], _ => rfl,
    a_are_pages := f_are_pages, d_are_pages := _, F_are_pages := fun_mk l_are_pages c_are_pages k_are_pages, g_are_pages := PySem.W.mg_of X G a_are_pages,
    b_are_pages := (fun_mk (st := s_are_pages) l_are_pages c_are_pages k_are_pages).binds (ps := ["value", "many"]) fun _ _ _ _ _ _ us hl => match us, hl with | [_, _], _ => rfl,
    a__are_links := f__are_links, d__are_links := _, F__are_links := fun_mk l__are_links c__are_links k__are_links, g__are_links := PySem.W.mg_of X G a__are_links,
    b__are_links := (fun_mk (st := s__are_links) l__are_links c__are_links k__are_links).binds (ps := ["value", "page", "many"]) fun _ _ _ _ _ _ us hl => match us, hl with | [_, _, _], _ => rfl,
    a_is_site := f_is_site, d_is_site := _, F_is_site := fun_mk l_is_site c_is_site k_is_site, g_is_site := PySem.W.mg_of X G a_is_site,
    b_is_site := (fun_mk (st := s_is_site) l_is_site c_is_site k_is_site).binds (ps := ["value"]) fun _ _ _ _ _ _ us hl => match us, hl with | [_], _ => rfl,
    a__law_is_net := f__law_is_net, d__law_is_net := _, F__law_is_net := fun_mk l__law_is_net c__law_is_net k__law_is_net, g__law_is_net := PySem.W.mg_of X G a__law_is_net,
    b__law_is_net := (fun_mk (st := s__law_is_net) l__law_is_net c__law_is_net k__law_is_net).binds (ps := ["_law_value"]) fun _ _ _ _ _ _ us hl => match us, hl with | [_], _ => rfl,
    a__law_checked := f__law_checked, d__law_checked := _, F__law_checked := fun_mk l__law_checked c__law_checked k__law_checked, g__law_checked := PySem.W.mg_of X G a__law_checked,
    b__law_checked := (fun_mk (st := s__law_checked) l__law_checked c__law_checked k__law_checked).binds (ps := ["_law_value"]) fun _ _ _ _ _ _ us hl => match us, hl with | [_], _ => rfl,
    a__law_bad_net := f__law_bad_net, d__law_bad_net := _, F__law_bad_net := fun_mk l__law_bad_net c__law_bad_net k__law_bad_net, g__law_bad_net := PySem.W.mg_of X G a__law_bad_net,
    b__law_bad_net := (fun_mk (st := s__law_bad_net) l__law_bad_net c__law_bad_net k__law_bad_net).binds (ps := ["_law_source_here", "_law_net_here"]) fun _ _ _ _ _ _ us hl => match us, hl with | [_, _], _ => rfl,
    a__law_holds := f__law_holds, d__law_holds := _, F__law_holds := fun_mk l__law_holds c__law_holds k__law_holds, g__law_holds := PySem.W.mg_of X G a__law_holds,
    b__law_holds := (fun_mk (st := s__law_holds) l__law_holds c__law_holds k__law_holds).binds (ps := ["_law_source_here", "_law_most"]) fun _ _ _ _ _ _ us hl => match us, hl with | [_, _], _ => rfl,
    a__law_source := f__law_source, d__law_source := _, F__law_source := fun_mk l__law_source c__law_source k__law_source, g__law_source := PySem.W.mg_of X G a__law_source,
    b__law_source := (fun_mk (st := s__law_source) l__law_source c__law_source k__law_source).binds (ps := ["_law_cell", "_law_k"]) fun _ _ _ _ _ _ us hl => match us, hl with | [_, _], _ => rfl,
    a_law := fa, d_law := _, F_law := fun_mk l_law c_law k_law, g_law := PySem.W.mg_of X G a_law,
    b_law := (fun_mk (st := s_law) l_law c_law k_law).binds (ps := ["_law_script"]) fun _ _ _ _ _ _ us hl => match us, hl with | [_], _ => rfl,
    t_MOST_PAGES := t_MOST_PAGES, g_MOST_PAGES := PySem.W.mg_of X G v_MOST_PAGES,
    n_range := PySem.W.mg_none_of X G z_range,
    n_int := PySem.W.mg_none_of X G z_int,
    n_min := PySem.W.mg_none_of X G z_min,
    n_abs := PySem.W.mg_none_of X G z_abs,
    n_isinstance := PySem.W.mg_none_of X G z_isinstance,
    n_bool := PySem.W.mg_none_of X G z_bool,
    n_list := PySem.W.mg_none_of X G z_list,
    n_all := PySem.W.mg_none_of X G z_all,
    n_sorted := PySem.W.mg_none_of X G z_sorted,
    n_set := PySem.W.mg_none_of X G z_set,
    n_len := PySem.W.mg_none_of X G z_len,
    n_enumerate := PySem.W.mg_none_of X G z_enumerate,
    n_repr := PySem.W.mg_none_of X G z_repr,
    n_tuple := PySem.W.mg_none_of X G z_tuple,
    n_max := PySem.W.mg_none_of X G z_max }
  refine ⟨T.d_law, fun s v => .of_eq rfl, fun base _ _ => ?_⟩
  have G__law_draw := ok__law_draw (P := l.prog) (w := w) (base := base) T 
  have G__law_net := ok__law_net (P := l.prog) (w := w) (base := base) T G__law_draw
  have G_is_int := ok_is_int (P := l.prog) (w := w) (base := base) T 
  have G_is_between := ok_is_between (P := l.prog) (w := w) (base := base) T G_is_int
  have G_are_pages := ok_are_pages (P := l.prog) (w := w) (base := base) T G_is_between
  have G__are_links := ok__are_links (P := l.prog) (w := w) (base := base) T G_are_pages
  have G_is_site := ok_is_site (P := l.prog) (w := w) (base := base) T G__are_links
  have G__law_is_net := ok__law_is_net (P := l.prog) (w := w) (base := base) T 
  have G__law_checked := ok__law_checked (P := l.prog) (w := w) (base := base) T G_is_site G__law_is_net
  have G__law_bad_net := ok__law_bad_net (P := l.prog) (w := w) (base := base) T G__law_draw
  have G__law_holds := ok__law_holds (P := l.prog) (w := w) (base := base) T G__law_net G__law_draw G__law_checked G_is_site G__law_bad_net
  have G__law_source := ok__law_source (P := l.prog) (w := w) (base := base) T 
  have G_law := ok_law (P := l.prog) (w := w) (base := base) T G__law_holds G__law_source
  exact G_law
end
end Vf
open PySem PySem.W PyProof.Rows
set_option maxHeartbeats 0 in
theorem PySem.Challenge.cw_breadcrumbs_k01_sites_recognized_holds : PySem.Challenge.rw_breadcrumbs_k01_sites_recognized.Holds := by
  w_on; o_law; k_head; (case hw => w_witness2)
  k_fill
  refine Vf.walk_ofG (l := PySem.Challenge.rw_breadcrumbs_k01_sites_recognized) (n := 63) (k := 8) (x := "_law_script") (sp := Vf.sp_law) rfl (by decide) rfl ⟨rfl, by decide, by decide⟩ (fun w h Y => PySem.W.kIn_of Y) ?F (fun K H a ns hl hS one => ⟨a, ns, rfl, hS, hl, one, fun _ => rfl⟩)
  case F =>
    intro w mg fa h KX G hmg
    refine' Vf.all_mk KX G hmg ?a__law_draw ?l__law_draw ?c__law_draw ?k__law_draw ?a__law_net ?l__law_net ?c__law_net ?k__law_net ?a_is_int ?l_is_int ?c_is_int ?k_is_int ?a_is_between ?l_is_between ?c_is_between ?k_is_between ?a_are_pages ?l_are_pages ?c_are_pages ?k_are_pages ?a__are_links ?l__are_links ?c__are_links ?k__are_links ?a_is_site ?l_is_site ?c_is_site ?k_is_site ?a__law_is_net ?l__law_is_net ?c__law_is_net ?k__law_is_net ?a__law_checked ?l__law_checked ?c__law_checked ?k__law_checked ?a__law_bad_net ?l__law_bad_net ?c__law_bad_net ?k__law_bad_net ?a__law_holds ?l__law_holds ?c__law_holds ?k__law_holds ?a__law_source ?l__law_source ?c__law_source ?k__law_source ?a_law ?l_law ?c_law ?k_law ?v_MOST_PAGES ?z_range ?z_int ?z_min ?z_abs ?z_isinstance ?z_bool ?z_list ?z_all ?z_sorted ?z_set ?z_len ?z_enumerate ?z_repr ?z_tuple ?z_max
    (case a__law_draw => k_is); (case l__law_draw => k_is); (case c__law_draw => k_is); (case k__law_draw => k_is); (case a__law_net => k_is); (case l__law_net => k_is); (case c__law_net => k_is); (case k__law_net => k_is); (case a_is_int => k_is); (case l_is_int => k_is); (case c_is_int => k_is); (case k_is_int => k_is); (case a_is_between => k_is); (case l_is_between => k_is); (case c_is_between => k_is); (case k_is_between => k_is); (case a_are_pages => k_is); (case l_are_pages => k_is); (case c_are_pages => k_is); (case k_are_pages => k_is); (case a__are_links => k_is); (case l__are_links => k_is); (case c__are_links => k_is); (case k__are_links => k_is); (case a_is_site => k_is); (case l_is_site => k_is); (case c_is_site => k_is); (case k_is_site => k_is); (case a__law_is_net => k_is); (case l__law_is_net => k_is); (case c__law_is_net => k_is); (case k__law_is_net => k_is); (case a__law_checked => k_is); (case l__law_checked => k_is); (case c__law_checked => k_is); (case k__law_checked => k_is); (case a__law_bad_net => k_is); (case l__law_bad_net => k_is); (case c__law_bad_net => k_is); (case k__law_bad_net => k_is); (case a__law_holds => k_is); (case l__law_holds => k_is); (case c__law_holds => k_is); (case k__law_holds => k_is); (case a__law_source => k_is); (case l__law_source => k_is); (case c__law_source => k_is); (case k__law_source => k_is); (case a_law => k_is); (case l_law => k_is); (case c_law => k_is); (case k_law => k_is); (case v_MOST_PAGES => k_is); (case z_range => k_is); (case z_int => k_is); (case z_min => k_is); (case z_abs => k_is); (case z_isinstance => k_is); (case z_bool => k_is); (case z_list => k_is); (case z_all => k_is); (case z_sorted => k_is); (case z_set => k_is); (case z_len => k_is); (case z_enumerate => k_is); (case z_repr => k_is); (case z_tuple => k_is); (case z_max => k_is)
