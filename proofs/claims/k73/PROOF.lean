import PyProof.Rows.All
import Wide.All
import OpenK.AllK
import Wide.FinOn
import HandS.ForMost
import HandS.Wide
import HandS.IsInst
import HandS.EndBits
import HandS.Defaults
import HandS.Star
import HandS.Style
import HandS.Codes
import HandS.Conv
import PyProof.ReprBulk
import PySem.Challenge.RW_breadcrumbs_k73_trails_after_visits
set_option Elab.async false
set_option linter.all false
set_option maxRecDepth 100000
/-! own rules: defs that may show data by repr, great powers, sets, calls by names alone -/
namespace Vf
open PySem PySem.Spec PyProof.Rows L2

/-! ### a def whose callers stand in no repr -/
structure FnG (P : Program) (w : World) (K : PySem.W.Frag) (mg : Str → Option Value) (base : Heap)
    (CX : CXT) (k : Nat) (f : Addr) (fd : FuncData) (ps : List Str) (sp : Sp) : Prop where
  len : ∀ vs H Q E, sp vs H Q E → vs.length = ps.length
  run : ∀ (A : Around), A.guards = some [] → Room k A →
    ∀ (outer : List Env) (s : Shared) (H : Hp) (args : Args) (us : List Value) (vs : List V) (Q : VK) (E : XK),
      Env0 P w K mg base A outer s H → BindsTo s fd args (ps.zip us) → Vals vs us → sp vs H Q E →
      codeAny (model P w) A (.call (.ref f) args) (CR CX outer P w H s Q E) s

section
variable {CX : CXT} {P : Program} {w : World} {K : PySem.W.Frag} {mg : Str → Option Value} {base : Heap} {k : Nat}
theorem FnG.of {f : Addr} {fd : FuncData} {ps : List Str} {sp : Sp}
    (F : FnOk P w K mg base CX k f fd ps sp) : FnG P w K mg base CX k f fd ps sp where
  len := F.len
  run := fun A _ hr outer s H args us vs Q E => F.run A outer s H args us vs Q E hr
theorem FnG.mono {j : Nat} {f : Addr} {fd : FuncData} {ps : List Str} {sp : Sp}
    (F : FnG P w K mg base CX j f fd ps sp) (h : j ≤ k) : FnG P w K mg base CX k f fd ps sp where
  len := F.len
  run := fun A g hr => F.run A g (hr.mono h)

/-- a def's body, run where the guards are known to be none -/
theorem Fun_okG {x qual : Str} {st : Stmt} {f : Addr} {fd : FuncData} {N ps : List Str} {sp : Sp}
    (F : Fun K x qual st f fd) (S : FnScope N ps (defScope st)) (len : ∀ vs H Q E, sp vs H Q E → vs.length = ps.length)
    (body : ∀ (cdv : Value) (A : Around) (outer : List Env) (s : Shared) (H : Hp) (vs : List V) (Q : VK) (E : XK),
      A.guards = some [] → Room k (A.deeper (envOfC qual (defScope st) s.heap.objs.size f cdv)) → sp vs H Q E →
      ∃ t, PSs (cxOf CX P w K mg base N qual (defScope st) f cdv A outer s H E).nox (defBody st) t ∧
        t { nx := fun _ H' => Q .non H', rt := Q } (start N vs) H) :
    FnG P w K mg base CX (k + 1) f fd ps sp := by
  obtain ⟨oc, od, kV, doc, pm, an, cdv, ct, osl, rfl, lk, hcd⟩ := F.ex
  refine ⟨len, fun A hg hr outer s H args us vs Q E e0 hb r hsp => ?_⟩
  have KX : K.In s.heap := e0.mod.kin.keeps fun b o e => (e0.bs b o e).1
  have hkind : ∀ y ∈ ps.zip us, (defScope st).names.lookup y.1 = some .local ∨
      ((defScope st).names.lookup y.1 = some .cell ∧
        ((cellsFrom (s.heap.objs.size + 1) (defScope st).names []).lookup y.1).isSome = true) := by
    rintro ⟨n, v⟩ hy
    rcases S.par n (List.of_mem_zip hy).1 with q | q
    · exact Or.inl q
    · exact Or.inr ⟨q, PySem.W.cellsFrom_some _ _ _ (Or.inl q)⟩
  refine codeAny_call_function hr.depth (KX _ _ lk) rfl S.co S.gen rfl (PySem.W.codeRec_of KX hcd)
    (hb _ _ _ _ (wpAny_newFunctionEnv_cells S.kind hkind fun env he s1 x => ?_))
  subst he
  refine ⟨(e0.mod.nolimit.keeps fun b o e => (e0.bs b o e).1).keeps x.toInCall.keep, codeAny_func ?_⟩
  obtain ⟨t, ht, hq⟩ := body cdv A outer s H vs Q E hg (hr.deeper _) hsp
  have I := inv_start (CX := CX) (E := E) S hr.hd e0 (len _ _ _ _ hsp) r x
  refine wpAny_mono (ht.nox.run [] s1 (start N vs) H _ I hq) (fun fl s' hs => ?_) (fun e s' hs => hs)
  have fin : ∀ {σ' : L2.St} {H' : Hp} {v : V} {u : Value}, Inv (cxOf CX P w K mg base N qual (defScope st) f cdv A outer s H E) [] σ' H' s' →
      RelV v u → Q v H' → CE outer P w H s Q u s' := fun {σ' H' v u} J rv q =>
    ⟨v, H', J.os, J.bare, J.base, J.hok, rv, q⟩
  match fl, hs with
  | .ret u, ⟨v, σ', H', J, rv, q⟩ => exact fin J rv q
  | .next, ⟨σ', H', J, q⟩ => exact fin (v := V.non) (u := Value.none) J rfl q
  | .brk, ⟨_, _, _, q⟩ => exact q.elim
  | .cont, ⟨_, _, _, q⟩ => exact q.elim
end

/-! ### the call of such a def -/
section
variable {X : Cx} {CX : CXT} {k : Nat} {f : Addr} {fd : FuncData} {ps ks : List Str} {sp : Sp} {dvs : List V} {ds : List Value}
  {E : XK} {x : Str} {p pos : Pos} {e : Expr} {es : List Expr} {kws : List Keyword} {t tk : TA}
theorem run_fnG {pins : List (Addr × Obj)} {σ : L2.St} {H : Hp} {s : Shared} {Q : VK} {us : List Value} {vs : List V}
    (F : FnG X.prog X.w X.K X.mg X.base CX k f fd ps sp) (hg : X.A.guards = some []) (hr : Room k X.A) (hb : Binds X.K fd ps ds)
    (hd : Vals dvs ds) (hx : Passes CX X E) (I : Inv X pins σ H s) (r : Vals vs us) (h : sp (vs ++ dvs) H Q E) :
    wpAny (model X.prog X.w) X.A (call (.ref f) us) (EP X pins σ Q) X.xe s := by
  have r2 : Vals (vs ++ dvs) (us ++ ds) := Vals.append r hd
  have hl : (us ++ ds).length = ps.length := r2.length ▸ F.len _ _ _ _ h
  refine wpAny_call (codeAny_mono (F.run X.A hg hr X.stack s H ⟨us, []⟩ (us ++ ds) (vs ++ dvs) Q E I.env0 (hb s us I.kIn hl) r2 h) fun res s' hq => ?_)
  match res, hq with
  | .error e, hq => exact hx pins σ H s e s' I hq
  | .ok (.ret u), hq => exact I.after hq
  | .ok .next, hq => exact hq.elim
  | .ok .brk, hq => exact hq.elim
  | .ok .cont, hq => exact hq.elim
theorem pe_callG (F : FnG X.prog X.w X.K X.mg X.base CX k f fd ps sp) (hG : X.A.guards = some []) (hr : Room k X.A)
    (hg : Gl X x) (hm : X.mg x = some (.ref f)) (hk : PySem.W.keepIn X.K (.ref f) = true) (hb : Binds X.K fd ps ds)
    (hd : Vals dvs ds) (hx : Passes CX X E) (ha : PA X (e :: es) t)
    (hdb : (x == ("__debug__" : Str)) = false := by decide)
    (he : starEach (e :: es) X.env = (false, eval e X.env) :: starEach es X.env := by rfl)
    (hpl : (backTo pos (starEach es X.env)).any (·.1) = false := by rfl) :
    PE X (.Call (.Name x p) (e :: es) [] pos) (tCall sp dvs E t) :=
  ⟨fun pins s σ H Q I h => wpAny_Call_Name_kw (ld_glob I hg hm
    (PySem.W.callWith_K (h₀ := X.base) I.ok.mod.kin hk (thn (ha.run pos pins s σ H _ I h)
      fun us s1 ⟨vs, H1, I1, r, q⟩ => ⟨I1.kIn, run_fnG F hG hr hb hd hx I1 r q⟩) he hpl) hdb)⟩

/-- f(k = v, ..), nothing by place -/
def tCallK0 (sp : Sp) (gV : List V → List V) (E : XK) (tk : TA) : TE := fun σ H Q => tk σ H fun zs H2 => sp (gV zs) H2 Q E
structure KBinds0 (K : PySem.W.Frag) (fd : FuncData) (ps ks : List Str) (gV : List V → List V) : Prop where
  to : ∀ (s : Shared) (zs : List V) (ws : List Value), K.In s.heap → Vals zs ws → (gV zs).length = ps.length →
    ∃ us : List Value, Vals (gV zs) us ∧ BindsTo s fd ⟨[], ks.zip ws⟩ (ps.zip us)
theorem pe_callK0 {gV : List V → List V} (F : FnOk X.prog X.w X.K X.mg X.base CX k f fd ps sp) (hr : Room k X.A)
    (hg : Gl X x) (hm : X.mg x = some (.ref f)) (hk : PySem.W.keepIn X.K (.ref f) = true) (hb : KBinds0 X.K fd ps ks gV)
    (hx : Passes CX X E) (hkw : PK X kws tk) (hall : (backToKw pos (keywordEach kws X.env)).all (·.1.isSome) = true := by rfl)
    (hks : (backToKw pos (keywordEach kws X.env)).filterMap (·.1) = ks := by rfl) (hdb : (x == ("__debug__" : Str)) = false := by decide)
    (hpl : ((backTo pos (starEach [] X.env)).any (·.1) || (backToKw pos (keywordEach kws X.env)).any (·.1.isNone)) = false := by rfl) :
    PE X (.Call (.Name x p) [] kws pos) (tCallK0 sp gV E tk) := by
  refine ⟨fun pins s σ H Q I h => wpAny_Call_Name_kw (ld_glob I hg hm ?_ hdb)⟩
  refine PySem.W.callWith_KW0 (h₀ := X.base) I.ok.mod.kin hk hall (thn (hkw.run pos pins s σ H _ I h) fun ws s2 ⟨zs, H2, I2, rz, q2⟩ => ⟨I2.kIn, ?_⟩) hpl
  rw [hks]
  obtain ⟨us, r, hbt⟩ := hb.to s2 zs ws I2.kIn rz (F.len _ _ _ _ q2)
  refine wpAny_call (codeAny_mono (F.run X.A X.stack s2 H2 ⟨[], ks.zip ws⟩ us (gV zs) Q E hr I2.env0 hbt r q2) fun res s' hq => ?_)
  match res, hq with
  | .error e, hq => exact hx pins σ H2 s2 e s' I2 hq
  | .ok (.ret u), hq => exact I2.after hq
  | .ok .next, hq => exact hq.elim
  | .ok .brk, hq => exact hq.elim
  | .ok .cont, hq => exact hq.elim
end

/-! ### operators -/
section
variable {X : Cx}
def CPowG (i j : Int) : Prop := 0 ≤ j ∧ (Builtin.Int.intBits i : Int) * j ≤ 2 ^ 27
theorem op_powG : OpR X (binaryOp .Pow) (rI CPowG fun i j => .int (i ^ j.toNat)) :=
  opI fun _ _ _ _ _ _ _ hc q => pow_int hc.1 hc.2 q
theorem cube_ok {i : Int} {n : Nat} (h : i.natAbs < 2 ^ n) (hn : n ≤ 1000000) : CPowG i 3 := by
  refine ⟨by decide, ?_⟩
  have b : Builtin.Int.intBits i ≤ n + 1 := by
    unfold Builtin.Int.intBits
    split
    · omega
    · rename_i h0
      have hz : i.natAbs ≠ 0 := fun z => h0 (by rw [Int.natAbs_eq_zero.mp z]; rfl)
      have := (Nat.log2_lt hz).mpr h
      omega
  have e : (2 : Int) ^ 27 = 134217728 := by decide
  rw [e]
  omega

/-- repr(x), x a list or a tuple of data -/
def rShow (K : PySem.W.Frag) : List V → Hp → VK → Prop := fun xs H Q => ∃ (a : Addr) (d : PyData), xs = [.ref a] ∧ Dp K H (.ref a) d ∧
  d.showable = true ∧ d.hasDict = false ∧ d.depth ≤ 100 ∧ d.shown.length ≤ sizeLine ∧ Q (.str d.shown) H
theorem call_show (hG : X.A.guards = some []) (hu : X.A.units + 200 < cLine) : CallR X (.builtin "repr") (rShow X.K) := by
  intro pins s σ H xs us Q I r h
  obtain ⟨a, d, rfl, hd, h1, h2, h3, h4, q⟩ := h
  obtain ⟨u, rfl, rx⟩ := vals1 r
  obtain ⟨as, hr⟩ := Dp.reads I d _ u hd rx
  cases (show u = Value.ref a from rx)
  exact repr_of_reads' hr h1 (PyData.noDict_hsm h2) hG (by omega) (fun _ _ e => e)
    (fun h' u tk hk => ⟨.str d.shown, H, I.kept hk, ⟨_, rfl⟩, q⟩) h4
theorem units_of {k : Nat} {A : Around} (hr : Room k A) : A.units + 200 < cLine := by
  have := hr.un
  omega
end

/-! ### heaps -/
theorem same_new {H : Hp} {p : Addr} {o : HO} (h : H p = none) : Same H (upd H p o) := by
  intro b x e
  rw [upd_ne (ne_of_none e h)]
  exact e
/-- all but p is as it was -/
def But (p : Addr) (H H' : Hp) : Prop := ∀ b o, b ≠ p → H b = some o → H' b = some o
theorem But.refl (p : Addr) (H : Hp) : But p H H := fun _ _ _ e => e
theorem But.of_same {p : Addr} {H H' : Hp} (s : Same H H') : But p H H' := fun b o _ e => s b o e
theorem But.trans {p : Addr} {H H1 H2 : Hp} (a : But p H H1) (b : But p H1 H2) : But p H H2 := fun c o n e => b c o n (a c o n e)
theorem But.upd {p : Addr} {H : Hp} {o : HO} : But p H (upd H p o) := fun b x n e => by
  rw [upd_ne n]
  exact e
theorem But.seq {K : PySem.W.Frag} {p a : Addr} {H H' : Hp} {xs : List V} (s : But p H H') (n : a ≠ p) (h : SqL K H a xs) : SqL K H' a xs := by
  rcases h with (h | ⟨o, h⟩) | h
  · exact .inl (.inl (s _ _ n h))
  · exact .inl (.inr ⟨o, s _ _ n h⟩)
  · exact .inr h
theorem But.free {p l : Addr} {H H' : Hp} (s : But p H H') (n : l ≠ p) (h : H' l = none) : H l = none := by
  cases q : H l with
  | none => rfl
  | some o => exact absurd (s l o n q) (by rw [h]; exact fun z => nomatch z)

/-! ### kinds of values -/
/-- none, a bool, an int, a text, a list, a tuple, a dict -/
def Kn (H : Hp) : V → Prop
  | .non => True
  | .bl _ => True
  | .int _ => True
  | .str _ => True
  | .ref a => (∃ xs, H a = some (.lst xs)) ∨ (∃ xs, H a = some (.tup xs)) ∨ ∃ ks, H a = some (.dK ks)
  | _ => False
theorem Kn.same {H H' : Hp} (s : Same H H') : ∀ {x : V}, Kn H x → Kn H' x
  | .non, h => h
  | .bl _, h => h
  | .int _, h => h
  | .str _, h => h
  | .ref a, h => by
    rcases h with ⟨xs, e⟩ | ⟨xs, e⟩ | ⟨ks, e⟩
    · exact .inl ⟨xs, s _ _ e⟩
    · exact .inr (.inl ⟨xs, s _ _ e⟩)
    · exact .inr (.inr ⟨ks, s _ _ e⟩)
  | .byt _, h => h
  | .flt _, h => h
  | .ty _, h => h
def tyS (H : Hp) : V → String
  | .non => "NoneType"
  | .bl _ => "bool"
  | .int _ => "int"
  | .str _ => "str"
  | .ref a => match H a with
    | some (.lst _) => "list"
    | some (.tup _) => "tuple"
    | _ => "dict"
  | _ => ""
def isIB : V → Bool
  | .int _ => true
  | .bl _ => true
  | _ => false
def isBB : V → Bool
  | .bl _ => true
  | _ => false
def isI : V → Bool
  | .int _ => true
  | _ => false
def isLB (H : Hp) : V → Bool
  | .ref a => match H a with
    | some (.lst _) => true
    | _ => false
  | _ => false
theorem Kn.ty {K : PySem.W.Frag} {H : Hp} : ∀ {x : V}, Kn H x → TyX K H x (.type (tyS H x))
  | .non, _ => .base .non
  | .bl _, _ => .base (.bl _)
  | .int _, _ => .base (.int _)
  | .str _, _ => .base (.str _)
  | .ref a, h => by
    show TyX K H (.ref a) (.type (match H a with
      | some (.lst _) => "list"
      | some (.tup _) => "tuple"
      | _ => "dict"))
    rcases h with ⟨xs, e⟩ | ⟨xs, e⟩ | ⟨ks, e⟩
    · rw [e]; exact .base (.lst e)
    · rw [e]; exact .base (.tup e)
    · rw [e]; exact .base (.dK e)
theorem kit_int (H : Hp) : ∀ {x : V}, Kn H x → kitB (tyS H x) "int" = some (isIB x)
  | .non, _ => by
    show kitB "NoneType" "int" = some false
    decide +kernel
  | .bl _, _ => by
    show kitB "bool" "int" = some true
    decide +kernel
  | .int _, _ => by
    show kitB "int" "int" = some true
    decide +kernel
  | .str _, _ => by
    show kitB "str" "int" = some false
    decide +kernel
  | .ref a, h => by
    show kitB (match H a with
      | some (.lst _) => "list"
      | some (.tup _) => "tuple"
      | _ => "dict") "int" = some false
    rcases h with ⟨xs, e⟩ | ⟨xs, e⟩ | ⟨ks, e⟩
    · rw [e]
      show kitB "list" "int" = some false
      decide +kernel
    · rw [e]
      show kitB "tuple" "int" = some false
      decide +kernel
    · rw [e]
      show kitB "dict" "int" = some false
      decide +kernel
theorem kit_bool (H : Hp) : ∀ {x : V}, Kn H x → kitB (tyS H x) "bool" = some (isBB x)
  | .non, _ => by
    show kitB "NoneType" "bool" = some false
    decide +kernel
  | .bl _, _ => by
    show kitB "bool" "bool" = some true
    decide +kernel
  | .int _, _ => by
    show kitB "int" "bool" = some false
    decide +kernel
  | .str _, _ => by
    show kitB "str" "bool" = some false
    decide +kernel
  | .ref a, h => by
    show kitB (match H a with
      | some (.lst _) => "list"
      | some (.tup _) => "tuple"
      | _ => "dict") "bool" = some false
    rcases h with ⟨xs, e⟩ | ⟨xs, e⟩ | ⟨ks, e⟩
    · rw [e]
      show kitB "list" "bool" = some false
      decide +kernel
    · rw [e]
      show kitB "tuple" "bool" = some false
      decide +kernel
    · rw [e]
      show kitB "dict" "bool" = some false
      decide +kernel
theorem kit_list (H : Hp) : ∀ {x : V}, Kn H x → kitB (tyS H x) "list" = some (isLB H x)
  | .non, _ => by
    show kitB "NoneType" "list" = some false
    decide +kernel
  | .bl _, _ => by
    show kitB "bool" "list" = some false
    decide +kernel
  | .int _, _ => by
    show kitB "int" "list" = some false
    decide +kernel
  | .str _, _ => by
    show kitB "str" "list" = some false
    decide +kernel
  | .ref a, h => by
    show kitB (match H a with
      | some (.lst _) => "list"
      | some (.tup _) => "tuple"
      | _ => "dict") "list" = some (match H a with
      | some (.lst _) => true
      | _ => false)
    rcases h with ⟨xs, e⟩ | ⟨xs, e⟩ | ⟨ks, e⟩
    · rw [e]
      show kitB "list" "list" = some true
      decide +kernel
    · rw [e]
      show kitB "tuple" "list" = some false
      decide +kernel
    · rw [e]
      show kitB "dict" "list" = some false
      decide +kernel
section
variable {K : PySem.W.Frag} {H : Hp} {x : V} {Q : VK}
theorem isi_int (h : Kn H x) (q : Q (.bl (isIB x)) H) : rIsi K [x, .ty "int"] H Q := ⟨x, _, _, _, _, rfl, .ty _, h.ty, kit_ty (kit_int H h), q⟩
theorem isi_bool (h : Kn H x) (q : Q (.bl (isBB x)) H) : rIsi K [x, .ty "bool"] H Q := ⟨x, _, _, _, _, rfl, .ty _, h.ty, kit_ty (kit_bool H h), q⟩
theorem isi_list (h : Kn H x) (q : Q (.bl (isLB H x)) H) : rIsi K [x, .ty "list"] H Q := ⟨x, _, _, _, _, rfl, .ty _, h.ty, kit_ty (kit_list H h), q⟩
end
theorem isI_eq : ∀ x : V, isI x = (isIB x && !isBB x)
  | .non => rfl
  | .bl _ => rfl
  | .int _ => rfl
  | .str _ => rfl
  | .ref _ => rfl
  | .byt _ => rfl
  | .flt _ => rfl
  | .ty _ => rfl
theorem isI_of : ∀ {x : V}, isI x = true → ∃ i, x = .int i
  | .int i, _ => ⟨i, rfl⟩
def inRg (lo hi : Int) : V → Bool
  | .int i => decide (lo ≤ i) && decide (i ≤ hi)
  | _ => false
/-- a value to be judged: of a known kind, its items too -/
def OkV (H : Hp) (x : V) : Prop := Kn H x ∧ ∀ a xs, x = .ref a → H a = some (.lst xs) → xs.length ≤ 4000 ∧ ∀ y ∈ xs, Kn H y
def itemsB (f : List V → Bool) (H : Hp) : V → Bool
  | .ref a => match H a with
    | some (.lst xs) => f xs
    | _ => false
  | _ => false
theorem itemsB_lst {f : List V → Bool} {H : Hp} {a : Addr} {xs : List V} (e : H a = some (.lst xs)) : itemsB f H (.ref a) = f xs := by
  show (match H a with
    | some (.lst xs) => f xs
    | _ => false) = f xs
  rw [e]
theorem isLB_of {H : Hp} : ∀ {x : V}, isLB H x = true → ∃ a xs, x = .ref a ∧ H a = some (.lst xs)
  | .ref a, h => by
    have h' : (match H a with
      | some (.lst _) => true
      | _ => false) = true := h
    split at h'
    · rename_i xs e
      exact ⟨a, xs, rfl, e⟩
    · cases h'
theorem itemsB_no {f : List V → Bool} {H : Hp} : ∀ {x : V}, ¬ isLB H x = true → itemsB f H x = false
  | .non, _ => rfl
  | .bl _, _ => rfl
  | .int _, _ => rfl
  | .str _, _ => rfl
  | .byt _, _ => rfl
  | .flt _, _ => rfl
  | .ty _, _ => rfl
  | .ref a, h => by
    have h' : ¬ (match H a with
      | some (.lst _) => true
      | _ => false) = true := h
    show (match H a with
      | some (.lst xs) => f xs
      | _ => false) = false
    split
    · rename_i xs e
      rw [e] at h'
      exact absurd rfl h'
    · rfl
def pgsB (m : Int) (xs : List V) : Bool := xs.all (inRg 0 (m - 1))

/-! ### set(xs) of nums; its length -/
def met (ns : List Int) : Nat := (firstMet (fun i => ns.getD i 0) ns.length).length
theorem met_grow (val : Nat → Int) : ∀ n, (firstMet val n).length = n → ∀ i j, i < j → j < n → val i ≠ val j := by
  intro n
  induction n with
  | zero => intro _ i j _ h; omega
  | succ n ih =>
    intro h i j hij hj
    have hle := firstMet_length_le val n
    rw [firstMet_succ, step_length] at h
    have h1 : ¬ (firstMet val n).any (· == val n) = true := fun z => by
      rw [if_pos z] at h
      omega
    rw [if_neg h1] at h
    by_cases e : j = n
    · subst e
      intro z
      apply h1
      rw [firstMet_any]
      exact List.any_eq_true.mpr ⟨val i, List.mem_map.mpr ⟨i, List.mem_range.mpr hij, rfl⟩, beq_iff_eq.mpr z⟩
    · exact ih (by omega) i j hij (by omega)
theorem met_no (val : Nat → Int) : ∀ n, (∀ i j, i < j → j < n → val i ≠ val j) → (firstMet val n).length = n := by
  intro n
  induction n with
  | zero => intro _; rfl
  | succ n ih =>
    intro h
    have h0 := ih fun i j a b => h i j a (by omega)
    rw [firstMet_succ, step_length, if_neg, h0]
    intro z
    rw [firstMet_any] at z
    obtain ⟨y, hy, e⟩ := List.any_eq_true.mp z
    obtain ⟨i, hi, rfl⟩ := List.mem_map.mp hy
    exact h i n (List.mem_range.mp hi) (Nat.lt_succ_self n) (beq_iff_eq.mp e)
theorem met_iff (ns : List Int) : met ns = ns.length ↔ ns.Nodup := by
  have g : ∀ i, i < ns.length → ns.getD i 0 = ns[i]! := fun i hi => by
    rw [List.getD_eq_getElem?_getD, List.getElem?_eq_getElem hi, getElem!_pos ns i hi]
    rfl
  constructor
  · intro h
    refine List.pairwise_iff_getElem.mpr fun i j hi hj hij => ?_
    have := met_grow _ _ h i j hij hj
    rw [List.getD_eq_getElem?_getD, List.getD_eq_getElem?_getD, List.getElem?_eq_getElem hi, List.getElem?_eq_getElem hj] at this
    exact this
  · intro h
    refine met_no _ _ fun i j hij hj => ?_
    have hi : i < ns.length := by omega
    show ns.getD i 0 ≠ ns.getD j 0
    rw [List.getD_eq_getElem?_getD, List.getD_eq_getElem?_getD, List.getElem?_eq_getElem hi, List.getElem?_eq_getElem hj]
    exact List.pairwise_iff_getElem.mp h i j hi hj hij
theorem met_le (ns : List Int) : met ns ≤ ns.length := firstMet_length_le _ _
theorem ints_vals : ∀ {ns : List Int} {us : List Value}, Vals (ns.map V.int) us → IntsAre us ns
  | [], _, .nil => .nil
  | n :: ns, _, .cons r t => by
    obtain ⟨k, rfl⟩ := r
    exact .cons n k (ints_vals t)
section
variable {X : Cx}
def rSetI (K : PySem.W.Frag) : List V → Hp → VK → Prop := fun xs H Q => ∃ (a : Addr) (ns : List Int), xs = [.ref a] ∧ SqL K H a (ns.map V.int) ∧ ns.length ≤ 4000 ∧
  ∀ (p : Addr) (S : Int → Bool), H p = none → (∀ k, S k = decide (k ∈ ns)) → Q (.ref p) (upd H p (.set S (met ns)))
theorem cr_setI (hc : X.calm = true) : CallR X (.type "set") (rSetI X.K) := by
  intro pins s σ H xs us Q I r h
  obtain ⟨a, ns, rfl, hS, hl, q⟩ := h
  obtain ⟨u, rfl, rx⟩ := vals1 r
  cases (show u = Value.ref a from rx)
  obtain ⟨its, rv, pl, hz⟩ := I.list hS
  have hi : IntsAre its.toArray.toList ns := by
    rw [List.toList_toArray]
    exact ints_vals rv
  have hn : its.length = ns.length := by
    rw [← rv.length, List.length_map]
  have hsz : its.toArray.size = ns.length := by
    rw [List.size_toArray, hn]
  refine call_set_list (ns := ns) (I.ok.hd hc) pl.isList hi (by rw [hsz]; show ns.length + 1 < 4096; omega) fun h' tk hS' hk => ?_
  have hf : H s.heap.objs.size = none := I.hok.fresh (Nat.le_refl _)
  have kp : ∀ b o, s.heap.get? b = some o → h'.get? b = some o := fun b o e => hk b o (Heap.lt_size e) e
  rw [hsz] at hS'
  refine ⟨.ref s.heap.objs.size, _, I.laid (t' := tk) kp (Nat.le_refl _) (o := .set _ _) hS', rfl, q _ _ hf fun k => ?_⟩
  rw [firstMet_any]
  rw [Bool.eq_iff_iff, decide_eq_true_iff, List.any_eq_true]
  constructor
  · rintro ⟨y, hy, e⟩
    obtain ⟨i, hi', rfl⟩ := List.mem_map.mp hy
    have hlt := List.mem_range.mp hi'
    have ek := beq_iff_eq.mp e
    rw [← ek, List.getD_eq_getElem?_getD, List.getElem?_eq_getElem hlt]
    exact List.getElem_mem hlt
  · intro hm
    obtain ⟨i, hi', e⟩ := List.mem_iff_getElem.mp hm
    refine ⟨ns.getD i 0, List.mem_map.mpr ⟨i, List.mem_range.mpr hi', rfl⟩, beq_iff_eq.mpr ?_⟩
    rw [List.getD_eq_getElem?_getD, List.getElem?_eq_getElem hi']
    exact e
theorem call_lenSet : CallR X (.builtin "len") (fun xs H Q => ∃ (p : Addr) (S : Int → Bool) (n : Nat), xs = [.ref p] ∧ H p = some (.set S n) ∧ Q (.int (n : Nat)) H) := by
  intro pins s σ H xs us Q I r h
  obtain ⟨p, S, n, rfl, hp, q⟩ := h
  obtain ⟨u, rfl, rx⟩ := vals1 r
  cases (show u = Value.ref p from rx)
  obtain ⟨o, es, ep, t, e, ex, hd, _, _, hb, hf, hn⟩ := (show ObjOk X.prog X.w H s.heap p (.set S n) from I.hok p _ hp)
  have h63 : (es.size : Int) < 2 ^ 63 := by
    have : es.size < 4096 := hb
    have e63 : (2 : Int) ^ 63 = 9223372036854775808 := by decide
    rw [e63]
    omega
  refine call_len_set e ex hd hf h63 ?_
  rw [hn]
  exact ⟨.int (n : Nat), H, I.tok _, ⟨_, rfl⟩, q⟩
end

/-! ### the answers about lists of pages -/
def toI : V → Int
  | .int i => i
  | _ => 0
def nums (xs : List V) : List Int := xs.map toI
theorem nums_map (ns : List Int) : nums (ns.map V.int) = ns := by
  unfold nums
  rw [List.map_map]
  exact List.map_id' _
theorem nums_of : ∀ {xs : List V} {lo hi : Int}, xs.all (inRg lo hi) = true → (nums xs).map V.int = xs
  | [], _, _, _ => rfl
  | x :: xs, lo, hi, h => by
    rw [List.all_cons, Bool.and_eq_true] at h
    have ih := nums_of h.2
    cases x with
    | int i =>
      show V.int i :: (nums xs).map V.int = _
      rw [ih]
    | _ => exact absurd h.1 Bool.false_ne_true
def difB (m : Int) (xs : List V) : Bool := pgsB m xs && decide (nums xs).Nodup
def visB (xs : List V) : Bool := pgsB 40 xs && decide (xs.length ≤ 300)
theorem bl_int (a b : Nat) : decide (V.int (a : Int) = V.int (b : Int)) = decide (a = b) := by
  by_cases e : a = b
  · rw [decide_eq_true e, e]
    exact decide_eq_true rfl
  · rw [decide_eq_false e]
    exact decide_eq_false fun z => e (Int.ofNat.inj (V.int.inj z))

/-! ### a pool of three ints, from which is drawn -/
def Pl (H : Hp) (p : Addr) (n : Nat) : Prop := ∃ a b c : Int, H p = some (.lst [.int a, .int b, .int c]) ∧ 0 ≤ a ∧ 0 ≤ b ∧ b.natAbs < 2 ^ 160 ∧ 0 ≤ c ∧ c ≤ (n : Int)
theorem Pl.mono {H : Hp} {p : Addr} {n m : Nat} (h : Pl H p n) (l : n ≤ m) : Pl H p m := by
  obtain ⟨a, b, c, e, h1, h2, h3, h4, h5⟩ := h
  exact ⟨a, b, c, e, h1, h2, h3, h4, by omega⟩
theorem Pl.same {H H' : Hp} {p : Addr} {n : Nat} (h : Pl H p n) (s : Same H H') : Pl H' p n := by
  obtain ⟨a, b, c, e, h⟩ := h
  exact ⟨a, b, c, s _ _ e, h⟩
theorem Pl.at {H : Hp} {p : Addr} {n : Nat} (h : Pl H p n) : ∃ o, H p = some o := by
  obtain ⟨a, b, c, e, _⟩ := h
  exact ⟨_, e⟩
theorem e2_160 : (2 : Nat) ^ 160 = 1461501637330902918203684832716283019655932542976 := by decide +kernel
theorem e2_170 : (2 : Nat) ^ 170 = 1496577676626844588240573268701473812127674924007424 := by decide +kernel
theorem pw18 : (10 : Int) ^ (18 : Int).toNat = 1000000000000000000 := by decide +kernel
theorem pw30 : (10 : Int) ^ (30 : Int).toNat = 1000000000000000000000000000000 := by decide +kernel
theorem pw33 : (10 : Int) ^ (33 : Int).toNat = 1000000000000000000000000000000000 := by decide +kernel
theorem pw36 : (10 : Int) ^ (36 : Int).toNat = 1000000000000000000000000000000000000 := by decide +kernel
theorem pw39 : (10 : Int) ^ (39 : Int).toNat = 1000000000000000000000000000000000000000 := by decide +kernel
theorem pw38 : (10 : Int) ^ (38 : Int).toNat = 100000000000000000000000000000000000000 := by decide +kernel
theorem pw40 : (10 : Int) ^ (40 : Int).toNat = 10000000000000000000000000000000000000000 := by decide +kernel
theorem pw41 : (10 : Int) ^ (41 : Int).toNat = 100000000000000000000000000000000000000000 := by decide +kernel
theorem pow_ok (n : Int) (h : 0 ≤ n) (h2 : n ≤ 1000) : CPow 10 n := ⟨h, by omega, by decide⟩
theorem cube_of {i : Int} (h0 : 0 ≤ i) (h : i < 1496577676626844588240573268701473812127674924007424) : CPowG i 3 :=
  cube_ok (n := 170) (by rw [e2_170]; omega) (by decide)

/-! ### data: how deep, how long when shown -/
structure Sh (k n : Nat) (d : PyData) : Prop where
  showable : d.showable = true
  noDict : d.hasDict = false
  lay : d.canLay0 = true
  short : d.leavesShort 40 = true
  deep : d.depth ≤ k
  bulk : d.bulk ≤ n
theorem Sh.mono {k n k' n' : Nat} {d : PyData} (h : Sh k n d) (hk : k ≤ k') (hn : n ≤ n') : Sh k' n' d :=
  ⟨h.showable, h.noDict, h.lay, h.short, Nat.le_trans h.deep hk, Nat.le_trans h.bulk hn⟩
theorem Sh.fits {k n : Nat} {d : PyData} (h : Sh k n d) (hn : n ≤ 300000) : d.shown.length ≤ sizeLine := by
  have h1 := PyData.shown_le_bulk 40 (by decide) d h.short
  have h2 := h.bulk
  have e : sizeLine = 16777216 := by decide
  rw [e]
  omega
theorem Sh.shaped {k n : Nat} {d : PyData} (h : Sh k n d) (hk : k ≤ 64) : SeqAt.shaped d = true := by
  unfold SeqAt.shaped
  rw [h.lay, Bool.true_and]
  exact decide_eq_true (Nat.le_trans h.deep hk)
theorem sh_int {z : Int} (h : z.natAbs < 10 ^ 12) : Sh 0 0 (.int z) where
  showable := by
    show decide (z.natAbs.log2 < 1920) = true
    refine decide_eq_true ?_
    by_cases e : z.natAbs = 0
    · rw [e]
      decide
    · refine (Nat.log2_lt e).mpr (Nat.lt_of_lt_of_le h ?_)
      exact Nat.le_trans (show 10 ^ 12 ≤ 2 ^ 64 by decide) (Nat.pow_le_pow_right (by decide) (by decide))
  noDict := by simp only [PyData.hasDict]
  lay := by simp only [PyData.canLay0]
  short := by
    simp only [PyData.leavesShort]
    exact decide_eq_true (Nat.le_trans (PyData.shown_int_le h) (by decide))
  deep := by simp only [PyData.depth]; exact Nat.le_refl 0
  bulk := by simp only [PyData.bulk]; exact Nat.le_refl 0
theorem sh_all {k n : Nat} : ∀ {ds : List PyData}, (∀ d ∈ ds, Sh k n d) →
    PyData.showableAll ds = true ∧ PyData.hasDictAll ds = false ∧ PyData.canLayAll0 ds = true ∧ PyData.leavesShortAll 40 ds = true ∧ PyData.depthAll ds ≤ k ∧ PyData.bulkAll ds ≤ ds.length * (n + 1)
  | [], _ => by
    simp only [PyData.showableAll, PyData.hasDictAll, PyData.canLayAll0, PyData.leavesShortAll, PyData.depthAll, PyData.bulkAll]
    exact ⟨trivial, trivial, trivial, trivial, Nat.zero_le _, Nat.zero_le _⟩
  | d :: ds, h => by
    have hd := h d List.mem_cons_self
    obtain ⟨h1, h2, h3, h4, h5, h6⟩ := sh_all (ds := ds) fun x hx => h x (List.mem_cons_of_mem _ hx)
    simp only [PyData.showableAll, PyData.hasDictAll, PyData.canLayAll0, PyData.leavesShortAll, PyData.depthAll, PyData.bulkAll]
    rw [hd.showable, hd.noDict, hd.lay, hd.short, h1, h2, h3, h4]
    refine ⟨rfl, rfl, rfl, rfl, Nat.max_le.mpr ⟨hd.deep, h5⟩, ?_⟩
    have hb := hd.bulk
    rw [List.length_cons, Nat.add_mul, Nat.one_mul]
    omega
theorem sh_list {k n : Nat} {ds : List PyData} (h : ∀ d ∈ ds, Sh k n d) : Sh (k + 1) (ds.length * (n + 1)) (.list ds) := by
  obtain ⟨h1, h2, h3, h4, h5, h6⟩ := sh_all h
  exact ⟨by simp only [PyData.showable]; exact h1, by simp only [PyData.hasDict]; exact h2, by simp only [PyData.canLay0]; exact h3,
    by simp only [PyData.leavesShort]; exact h4, by simp only [PyData.depth]; omega, by simp only [PyData.bulk]; exact h6⟩
theorem sh_tuple {k n : Nat} {ds : List PyData} (h : ∀ d ∈ ds, Sh k n d) : Sh (k + 1) (ds.length * (n + 1)) (.tuple ds) := by
  obtain ⟨h1, h2, h3, h4, h5, h6⟩ := sh_all h
  exact ⟨by simp only [PyData.showable]; exact h1, by simp only [PyData.hasDict]; exact h2, by simp only [PyData.canLay0]; exact h3,
    by simp only [PyData.leavesShort]; exact h4, by simp only [PyData.depth]; omega, by simp only [PyData.bulk]; exact h6⟩
/-- a list of ints, as data -/
def nD (ns : List Int) : PyData := .list (ns.map .int)
theorem sh_nD {ns : List Int} (h : ∀ z ∈ ns, 0 ≤ z ∧ z ≤ 1000) : Sh 1 ns.length (nD ns) := by
  have h1 : Sh (0 + 1) ((ns.map PyData.int).length * (0 + 1)) (.list (ns.map .int)) := sh_list fun d hd => by
    obtain ⟨z, hz, rfl⟩ := List.mem_map.mp hd
    have := h z hz
    exact sh_int (by omega)
  rw [List.length_map] at h1
  exact h1.mono (Nat.le_refl _) (by omega)
theorem dpa_nums {K : PySem.W.Frag} {H : Hp} : ∀ ns : List Int, DpAll K H (ns.map V.int) (ns.map PyData.int)
  | [] => .nil
  | n :: ns => .cons (.int n) (dpa_nums ns)
theorem dp_nD {K : PySem.W.Frag} {H : Hp} {a : Addr} {ns : List Int} (h : SqL K H a (ns.map V.int)) : Dp K H (.ref a) (nD ns) := .lst h (dpa_nums ns)
theorem canLay_nums : ∀ ns : List Int, PyData.canLayAll0 (ns.map PyData.int) = true
  | [] => by simp only [List.map_nil, PyData.canLayAll0]
  | n :: ns => by
    simp only [List.map_cons, PyData.canLayAll0, PyData.canLay0, Bool.true_and]
    exact canLay_nums ns
theorem depth_nums : ∀ ns : List Int, PyData.depthAll (ns.map PyData.int) = 0
  | [] => by simp only [List.map_nil, PyData.depthAll]
  | n :: ns => by
    simp only [List.map_cons, PyData.depthAll, PyData.depth]
    rw [depth_nums ns]
    rfl
theorem nD_shaped (ns : List Int) : SeqAt.shaped (nD ns) = true := by
  have h1 : (nD ns).canLay0 = true := by
    unfold nD
    simp only [PyData.canLay0]
    exact canLay_nums ns
  have h2 : (nD ns).depth ≤ 64 := by
    unfold nD
    simp only [PyData.depth]
    rw [depth_nums]
    decide
  unfold SeqAt.shaped
  rw [h1, decide_eq_true h2]
  rfl
theorem eqv_nums : ∀ xs ys : List Int, PyData.eqvAll (xs.map .int) (ys.map .int) = decide (xs = ys)
  | [], [] => by simp only [List.map_nil, PyData.eqvAll]; rfl
  | [], y :: ys => by simp only [List.map_nil, List.map_cons, PyData.eqvAll]; rfl
  | x :: xs, [] => by simp only [List.map_nil, List.map_cons, PyData.eqvAll]; rfl
  | x :: xs, y :: ys => by
    simp only [List.map_cons, PyData.eqvAll, PyData.eqv]
    rw [eqv_nums xs ys]
    by_cases e : x = y
    · subst e
      by_cases f : xs = ys
      · subst f
        simp
      · simp [f]
    · simp [e]
theorem eqv_nD (xs ys : List Int) : PyData.eqv (nD xs) (nD ys) = decide (xs = ys) := by
  unfold nD
  simp only [PyData.eqv]
  exact eqv_nums xs ys
/-- an item at a drawn place -/
theorem at_ex {xs : List V} {r : Int} (h0 : 0 ≤ r) (h : r < (xs.length : Int)) : ∃ v, atI xs r = some v ∧ v ∈ xs := by
  obtain ⟨j, rfl⟩ := Int.eq_ofNat_of_zero_le h0
  have hj : j < xs.length := by omega
  exact ⟨xs[j], atI_nat (List.getElem?_eq_getElem hj), List.getElem_mem hj⟩
theorem at_back {ns : List Int} (h : ns ≠ []) : atI (ns.map V.int) (-1) = some (.int (ns.getLast h)) := by
  have e : ns.map V.int = ns.dropLast.map V.int ++ [.int (ns.getLast h)] := by
    rw [← List.map_singleton, ← List.map_append, List.dropLast_concat_getLast]
  rw [e]
  exact atI_last _ _

theorem u64_of {k : Nat} {A : Around} (hr : Room k A) : A.units + 64 < cLine := by
  have := hr.un
  omega
theorem But.new {p F : Addr} {H H' : Hp} {o : HO} (s : But p H H') (hF : H F = none) : But p H (L2.upd H' F o) := fun b x n e => by
  rw [upd_ne (ne_of_none e hF)]
  exact s b x n e

/-! ### the law's end, where its def may show data -/
section
variable {CX : CXT} {P : Program} {w : World} {K : PySem.W.Frag} {mg mb : PySem.Str → Option Value} {k : Nat}
theorem law_callG {fa a : Addr} {fd : FuncData} {x : PySem.Str} {sp : Sp} {s₁ : Shared} {vs : List Value} {ns : List Int}
    (KX : K.In s₁.heap) (hns : s₁.heap.Ns mainGlobals mg) (hb : s₁.heap.Ns builtinsNs mb)
    (hbb : ∀ y : PySem.Str, y ≠ "__name__" → mb y = bootBuiltins y) (hlim : s₁.heap.NoLimit) (hg : s₁.gens = #[])
    (ha : s₁.heap.get? a = some { cls := .type "list", data := .seq vs.toArray }) (hi : IntsAre vs ns) (hl : ns.length ≤ sizeLine)
    (hr : Room k callerA)
    (F : ∀ base : Heap, K.In base → base.Ns mainGlobals mg → FnG P w K mg base CX k fa fd [x] sp)
    (hbind : ∀ (s : Shared) (u : Value), BindsTo s fd ⟨[u], []⟩ [(x, u)])
    (hsp : ∀ H : Hp, SqL K H a (ns.map V.int) → (∀ b, H b ≠ none → b = a) → sp [.ref a] H (fun v _ => v = .bl true) fun _ _ _ => False)
    (hCX : ∀ H e s', CX [] H s₁ (fun _ _ _ => False) e s' → False) :
    codeAny (model P w) callerA (.call (.ref fa) ⟨[.ref a], []⟩)
      (fun r s' => r = .ok (.ret (.bool true)) ∧ OldK s₁.heap s'.heap ∧ s'.os = s₁.os ∧ AllBare s'.gens) s₁ := by
  have go : ∀ H : Hp, (∀ b, H b = none ∨ ∃ o xs, H b = some (.frz o (.lst xs))) → SqL K H a (ns.map V.int) → HOk P w H s₁.heap →
      (∀ b, H b ≠ none → b = a) → (H a ≠ none → K.lookup a = none) →
      codeAny (model P w) callerA (.call (.ref fa) ⟨[.ref a], []⟩)
        (fun r s' => r = .ok (.ret (.bool true)) ∧ OldK s₁.heap s'.heap ∧ s'.os = s₁.os ∧ AllBare s'.gens) s₁ := by
    intro H only hS hok one hK
    have lay : ∀ {b : Addr} {o : Obj}, s₁.heap.get? b = some o → H b = none → (hidT s₁.heap H).get? b = some o := fun e n => hidT_get e n
    have dict0 : ∀ {b : Addr} {o : Obj} {es : Array DictEntry} {ep : Nat}, s₁.heap.get? b = some o → o.data = .dict es ep → H b = none := by
      intro b o es ep e d
      cases q : H b with
      | none => rfl
      | some u =>
        have eb : b = a := one b (by rw [q]; exact fun z => nomatch z)
        subst eb
        rw [ha] at e
        cases e
        exact absurd (show Data.seq vs.toArray _ = Data.dict es ep from d) (fun z => nomatch z)
    have nsK : ∀ {b : Addr} {m : PySem.Str → Option Value}, s₁.heap.Ns b m → (hidT s₁.heap H).Ns b m := by
      rintro b m ⟨o, es, ep, e, d, r⟩
      exact ⟨o, es, ep, lay e (dict0 e d), d, r⟩
    have inK : K.In (hidT s₁.heap H) := by
      intro b o e
      refine lay (KX b o e) ?_
      cases q : H b with
      | none => rfl
      | some u =>
        have eb : b = a := one b (by rw [q]; exact fun z => nomatch z)
        subst eb
        rw [hK (by rw [q]; exact fun z => nomatch z)] at e
        cases e
    have lim2 : (hidT s₁.heap H).NoLimit := by
      obtain ⟨mc, h1, h2⟩ := hlim
      exact ⟨mc, nsK h1, h2⟩
    have nof : ∀ b ∈ frs ([] : List Env), H b = none := fun b hb => absurd (show b ∈ ([] : List Addr) from hb) (by simp)
    have e0 : Env0 P w K mg (hidT s₁.heap H) callerA [] s₁ H :=
      ⟨rfl, ⟨inK, nsK hns, ⟨mb, nsK hb, hbb⟩, lim2⟩, fun b o e => of_hidT e, Nat.le_of_eq (hidT_size _ _), trivial, nof, hok, .of_eq hg⟩
    refine codeAny_mono ((F _ inK (nsK hns)).run callerA rfl hr [] s₁ H ⟨[.ref a], []⟩ [.ref a] [.ref a] _ _ e0 (hbind s₁ (.ref a)) (.cons rfl .nil) (hsp H hS one)) fun r s' h => ?_
    match r, h with
    | .error e, h => exact (hCX H e s' h).elim
    | .ok .next, h => exact h.elim
    | .ok .brk, h => exact h.elim
    | .ok .cont, h => exact h.elim
    | .ok (.ret u), ⟨v, H', os, bare, un, hok', r', q⟩ =>
      cases (show v = V.bl true from q)
      cases (show u = Value.bool true from r')
      refine ⟨rfl, OldK.of_keep fun b o e => ?_, os, bare⟩
      rcases only b with q | ⟨ob, xs, q⟩
      · exact un.keep b o e q (fun z => absurd (show b ∈ ([] : List Addr) from z) (by simp)) (by simp)
      · have e1 := (hok b _ q).1
        have e2 := (hok' b _ (un.frzs b ob _ q)).1
        rw [e] at e1
        cases e1
        exact e2
  have rv := vals_ints hi
  cases hk : K.lookup a with
  | some o =>
    have e := KX a o hk
    rw [ha] at e
    cases e
    exact go (fun _ => none) (fun _ => .inl rfl) (.inr ⟨_, vs.toArray, _, hk, rfl, rfl, rfl, by rw [List.size_toArray, hi.length]; exact hl, by simpa using rv⟩)
      (fun b u z => nomatch (show (none : Option HO) = some u from z)) (fun b z => absurd rfl z) fun z => absurd rfl z
  | none =>
    refine go (fun b => if b = a then some (.frz { cls := .type "list", data := .seq vs.toArray } (.lst (ns.map V.int))) else none) (fun b => ?_) (.inl (.inr ⟨_, if_pos rfl⟩)) (fun b u z => ?_) (fun b z => ?_) fun _ => hk
    · by_cases hb : b = a
      · exact .inr ⟨_, _, if_pos hb⟩
      · exact .inl (if_neg hb)
    · by_cases hb : b = a
      · have z' := (if_pos hb).symm.trans z
        cases z'
        subst hb
        exact ⟨ha, by rw [List.length_map]; exact hl, vs, _, rv, ha⟩
      · exact nomatch (if_neg hb).symm.trans z
    · by_cases hb : b = a
      · exact hb
      · exact absurd (if_neg hb) z
end
theorem walk_ofG {l : PySem.W.OpenLaw} {n k : Nat} {q : Program} {loose : List PySem.Str} {XP : (PySem.Str → Option Value) → Heap → Prop}
    {YP : World → Heap → Prop} {d : DefRec} {K : Params → PySem.W.Frag} {sp : PySem.W.Frag → Sp} {x : PySem.Str}
    (hn : l.most = some n) (hn2 : n ≤ sizeLine) (hdf : d.params.defaults = []) (hr : Room k callerA)
    (hY : ∀ (w : World) (h : Heap), YP w h → (K w.params).In h)
    (F : ∀ (w : World) (mg : PySem.Str → Option Value) (fa : Addr) (h : Heap), (K w.params).In h → h.Ns mainGlobals mg → mg d.name = some (.ref fa) →
      ∃ fd : FuncData, (∀ (s : Shared) (u : Value), BindsTo s fd ⟨[u], []⟩ [(x, u)]) ∧
        ∀ base : Heap, (K w.params).In base → base.Ns mainGlobals mg → FnG l.prog w (K w.params) mg base CX0 k fa fd [x] (sp (K w.params)))
    (hsp : ∀ (K : PySem.W.Frag) (H : Hp) (a : Addr) (ns : List Int), ns.length ≤ n → SqL K H a (ns.map V.int) → (∀ b, H b ≠ none → b = a) →
      sp K [.ref a] H (fun v _ => v = .bl true) fun _ _ _ => False) :
    PySem.W.WalkO q loose XP YP l.row.toRowW d [] (fun f vs => PySem.call f vs) :=
  Att.attach_call hn hdf fun w s₀ s₁ mg mb fa o pm cd doc a vs ns G Y ho hd hcd hmg hobj hints hlen hg => by
    obtain ⟨fd, hb, hF⟩ := F w mg fa _ (hY w _ Y) G.T.g hmg
    exact law_callG (hY w _ Y) G.T.g G.T.b G.T.builtins G.T.nolimit hg hobj hints (Nat.le_trans hlen hn2) hr hF hb
      (fun H hS one => hsp _ H a ns hlen hS one) fun H e s' z => z.elim

/-! ### o[:] = another list -/
section
variable {prog : Program} {w : World} {A : Around} {E : Value → Shared → Prop} {s : Shared}
theorem bounds_all (n : Nat) : sliceBounds none none none n = ((0 : Int), (n : Int), 1) := by
  unfold sliceBounds
  simp only [Option.getD_none, show (1 : Int) > 0 by decide, if_true]
set_option maxHeartbeats 1000000 in
theorem setItem_all {l b sl : Addr} {items new : Array Value} {n n2 : Nat} {Q : Unit → Shared → Prop}
    (e : s.heap.get? l = some { cls := .type "list", data := .seq items n })
    (e2 : s.heap.get? b = some { cls := .type "list", data := .seq new n2 }) (hne : l ≠ b)
    (hs : s.heap.IsSliceOf sl .none .none .none) (hsz : items.size + new.size ≤ sizeLine)
    (h : Q () { s with heap := s.heap.update l (Obj.mapSeq fun xs => xs.extract 0 0 ++ new ++ xs.extract items.size xs.size) }) :
    wpAny (model prog w) A (setItem (.ref l) (.ref sl) (.ref b)) Q E s := by
  have hl := PySem.IsL.isList e; have hb := PySem.IsL.isList e2
  obtain ⟨os, hos, hcs, hds⟩ := id hs
  have hT : s.TypeIs (.ref sl) "slice" := ⟨os, hos, hcs⟩
  have hstep : ¬ ((rawPart none == rawInt 0) = true) := fun z => nomatch z
  have same : Builtin.List.listSameRef (.ref l) (.ref b) = false := beq_eq_false_iff_ne.mpr hne
  have mx : (max (0 : Int) (items.size : Int)).toNat = items.size := by omega
  have hz : ((fun xs : Array Value => xs.extract 0 0 ++ new ++ xs.extract items.size xs.size) items).size ≤ sizeLine + 1 := by
    simp only [Array.size_append, Array.size_extract]; omega
  unfold setItem; try with_reducible refine wpAny_holding ?_
  first | refine wpAny_bind (wpAny_pure ?_) | skip
  refine wpAny_bind (wpAny_sequenceKey hl.typeIs (by decide) (wpAny_bind (wpAny_callSpecial?_slot (name := Str.ofString "__setitem__") hl.typeIs slot_list_setitem (wpAny_call_entry slot_list_setitem hl.typeIs entry_list_setitem ?_ (args_list_setitem _ _ _)))))
  show wpAny _ _ (Builtin.List.listSubscript? (.ref sl) >>= _) _ _ s; refine wpAny_bind ?_
  unfold Builtin.List.listSubscript?; refine wpAny_bind (wpAny_specialOf hT slice_no_index ?_)
  simp only [Option.isNone_none, if_true]; refine wpAny_pure ?_
  show wpAny _ _ (typeOf (.ref sl) >>= _) _ _ s; refine wpAny_bind (wpAny_typeOf hT ?_)
  first | (rw [if_neg (by decide)]) | (refine PySem.W.KFB.if_not (by decide) ?_)
  rw [listSliceParts_eq]; refine wpAny_bind (wpAny_bind (wpAny_field hos hds (x := .none) rfl (wpAny_bind (wpAny_listPart .none ?_))))
  rw [if_neg hstep]; refine wpAny_bind (wpAny_field hos hds (x := Value.none) rfl (wpAny_bind (wpAny_listPart .none ?_)))
  refine wpAny_bind (wpAny_field hos hds (x := Value.none) rfl (wpAny_bind (wpAny_listPart .none (wpAny_pure ?_)))); skip
  first | (simp only [same, Bool.false_eq_true, if_false]) | (refine PySem.W.KFB.if_not same ?_) | (dsimp only; rw [if_neg (by rw [same]; exact fun z => nomatch z)])
  refine wpAny_bind (m := Builtin.List.listAllItems (.ref b) "must assign iterable to extended slice") ?_; unfold Builtin.List.listAllItems
  refine wpAny_bind (wpAny_typeOf hb.typeIs ?_); first | (refine PySem.W.KFB.if_so (by decide) ?_) | (rw [if_pos (by decide)]) | (simp only [beq_self_eq_true, Bool.true_or, if_true])
  unfold Builtin.List.listItems; refine wpAny_bind (wpAny_seqItems e2 rfl (wpAny_pure (wpAny_bind (wpAny_bind (wpAny_seqItems e rfl (wpAny_pure ?_))))))
  refine wpAny_bind (wpAny_of_eq ((sliceIndices_raw none none none items.size (by simp)).trans (congrArg (pure : Int × Int × Int → Sem (Int × Int × Int)) (bounds_all _))) ?_)
  show wpAny _ _ (if ((1 : Int) == 1) = true then _ else _) _ _ s; rw [if_pos (by decide)]; refine wpAny_bind (wpAny_rule ?_)
  first | (simp only [notLongL hsz, Bool.false_eq_true, if_false]) | (refine PySem.W.KFB.if_not (notLongL hsz) ?_)
  first | (refine wpAny_bind (wpAny_pure ?_)) | (skip)
  show wpAny _ _ (updateSeq l (fun xs => xs.extract 0 (0 : Int).toNat ++ new ++ xs.extract (max (0 : Int) (items.size : Int)).toNat xs.size) >>= _) _ _ s
  rw [mx, show (0 : Int).toNat = 0 from rfl]; refine wpAny_bind (wpAny_updateSeq (hz := Nat.le_trans (Nat.le_add_right _ _) hsz) (_hz' := hz) e rfl (wpAny_bind (wpAny_letGo ?_)))
  first | (exact wpAny_bind (wpAny_pure (wpAny_pure ⟨.none, rfl, wpAny_pure h⟩))) | (exact wpAny_pure ⟨.none, rfl, wpAny_pure h⟩)
end
section
variable {X : Cx} {o : Expr} {to : TE} {p2 pos : Pos}
/-- o[:] = v, another list -/
def gAll (to : TE) : TG := fun v σ H Q => to σ H fun x H1 => ∃ (l b : Addr) (xs ys : List V), x = .ref l ∧ v = .ref b ∧ l ≠ b ∧ H1 l = some (.lst xs) ∧ H1 b = some (.lst ys) ∧
  xs.length + ys.length ≤ sizeLine ∧ Q σ (upd H1 l (.lst ys))
theorem pg_all (ho : PE X o to)
    (ha : ∀ v, assign (.Subscript o (.Slice none none none p2) pos) X.env v = (do
      let ov ← holding [v] (eval o X.env)
      let iv ← holding [v, ov] (eval (.Slice none none none p2) X.env)
      standAt pos
      holding [v, ov, iv] (setItem ov iv v)
      release [iv, v, ov] []) := by intro _; rfl) : PG X (.Subscript o (.Slice none none none p2) pos) (gAll to) := by
  refine ⟨fun pins s σ H v u Q I r h => ?_⟩
  rw [ha]
  refine wpAny_bind (wpAny_holding (thn (ho.run pins s σ H _ I h) fun ov s1 ⟨x, H1, I1, r1, l, b, xs, ys, ex, ev, hne, hl, hb, hz, q⟩ => ?_))
  subst ex; subst ev
  cases (show ov = Value.ref l from r1)
  cases (show u = Value.ref b from r)
  refine wpAny_bind (wpAny_holding (wpAny_Slice ?_))
  rw [evalPart_none]
  refine wpAny_pure (wpAny_pure (wpAny_pure ?_))
  have I2 : Inv X pins σ H1 { s1 with heap := s1.heap.push { cls := .type "slice", data := .fields #[.none, .none, .none] } } :=
    I1.kept (t' := s1.toks) fun c ob e => Heap.get?_push_of_some _ e
  refine wpAny_bind (wpAny_standAt (wpAny_bind (wpAny_holding ?_)))
  obtain ⟨z, its, n, rv, hl', e⟩ := I2.lstM hl
  obtain ⟨z2, its2, n2, rv2, hl2', e2⟩ := I2.lstM hb
  refine setItem_all e e2 hne (Heap.IsSliceOf.new ..) (by rw [List.size_toArray, List.size_toArray]; omega) ?_
  have I3 := I2.lset (its' := its2) (f := fun xs => xs.extract 0 0 ++ its2.toArray ++ xs.extract its.toArray.size xs.size) (t' := s1.toks) hl e
    (by show its.toArray.extract 0 0 ++ its2.toArray ++ its.toArray.extract its.toArray.size its.toArray.size = its2.toArray; simp) rv2 (by omega)
  exact wpAny_release ⟨σ, _, I3, q⟩
end

/-! ### what a visit does -/
def vis (t : List Int) (p : Int) : List Int := if p ∈ t then t.take (t.idxOf p + 1) else t ++ [p]
def play (t l : List Int) : List Int := l.foldl vis t
theorem play_nil (t : List Int) : play t [] = t := rfl
theorem play_snoc (t l : List Int) (p : Int) : play t (l ++ [p]) = vis (play t l) p := by
  unfold play
  rw [List.foldl_append]
  rfl
theorem play_step (t l : List Int) {i : Nat} {p : Int} (h : l[i]? = some p) : play t (l.take (i + 1)) = vis (play t (l.take i)) p := by
  rw [List.take_add_one, h]
  exact play_snoc _ _ _
theorem vis_len (t : List Int) (p : Int) : (vis t p).length ≤ t.length + 1 := by
  unfold vis
  split
  · rw [List.length_take]
    omega
  · rw [List.length_append]
    exact Nat.le_refl _
theorem play_len : ∀ (l t : List Int), (play t l).length ≤ t.length + l.length
  | [], t => Nat.le_refl _
  | p :: l, t => by
    have h1 := play_len l (vis t p)
    have h2 := vis_len t p
    show (play (vis t p) l).length ≤ _
    rw [List.length_cons]
    omega
theorem vis_mem {t : List Int} {p z : Int} (h : z ∈ vis t p) : z ∈ t ∨ z = p := by
  unfold vis at h
  split at h
  · exact .inl (List.mem_of_mem_take h)
  · rcases List.mem_append.mp h with h | h
    · exact .inl h
    · exact .inr (List.mem_singleton.mp h)
theorem play_mem : ∀ {l t : List Int} {z : Int}, z ∈ play t l → z ∈ t ∨ z ∈ l
  | [], _, _, h => .inl h
  | p :: l, t, z, h => by
    rcases play_mem (l := l) (t := vis t p) h with h | h
    · rcases vis_mem h with h | h
      · exact .inl h
      · exact .inr (h ▸ List.mem_cons_self)
    · exact .inr (List.mem_cons_of_mem _ h)
theorem inV_nums (p : Int) : ∀ t : List Int, inV (.int p) (t.map V.int) = decide (p ∈ t)
  | [] => by
    show false = decide (p ∈ ([] : List Int))
    exact (decide_eq_false (fun z => nomatch z)).symm
  | x :: t => by
    show ((x == p) || inV (.int p) (t.map V.int)) = decide (p ∈ x :: t)
    rw [inV_nums p t]
    by_cases e : x = p
    · subst e
      rw [beq_self_eq_true, Bool.true_or]
      exact (decide_eq_true List.mem_cons_self).symm
    · rw [beq_eq_false_iff_ne.mpr e, Bool.false_or]
      refine decide_eq_decide.mpr ⟨fun h => List.mem_cons_of_mem _ h, fun h => ?_⟩
      rcases List.mem_cons.mp h with h | h
      · exact absurd h.symm e
      · exact h
theorem flat_nums : ∀ t : List Int, (t.map V.int).all flatV = true
  | [] => rfl
  | x :: t => by
    rw [List.map_cons, List.all_cons, flat_nums t]
    rfl
theorem idx_nums : ∀ {t : List Int} {p : Int}, p ∈ t → (t.map V.int)[t.idxOf p]? = some (.int p) ∧ t.idxOf p < t.length ∧
    ∀ (m : Nat) (z : V), m < t.idxOf p → (t.map V.int)[m]? = some z → eqV z (.int p) = false
  | [], _, h => nomatch h
  | x :: t, p, h => by
    by_cases e : x = p
    · subst e
      rw [List.idxOf_cons_self]
      exact ⟨rfl, Nat.succ_pos _, fun m z hm => absurd hm (Nat.not_lt_zero m)⟩
    · have h' : p ∈ t := by
        rcases List.mem_cons.mp h with h | h
        · exact absurd h.symm e
        · exact h
      obtain ⟨i1, i2, i3⟩ := idx_nums h'
      have ei : (x :: t).idxOf p = t.idxOf p + 1 := by
        rw [List.idxOf_cons, beq_eq_false_iff_ne.mpr e]
        rfl
      rw [ei]
      refine ⟨i1, Nat.succ_lt_succ i2, fun m z hm hz => ?_⟩
      cases m with
      | zero =>
        cases (Option.some.inj hz)
        exact beq_eq_false_iff_ne.mpr e
      | succ m => exact i3 m z (Nat.lt_of_succ_lt_succ hm) hz
theorem cut_to (xs : List V) (k : Nat) : cutV xs none (some (k : Int)) = xs.take k := by
  unfold cutV
  rw [HT.sIx_none, HT.sIx_nat, List.drop_zero, Nat.sub_zero]
  by_cases h : k ≤ xs.length
  · rw [Nat.min_eq_left h]
  · rw [Nat.min_eq_right (by omega), List.take_of_length_le (Nat.le_refl _), List.take_of_length_le (by omega)]
theorem cut_from (xs : List V) (k : Nat) : cutV xs (some (k : Int)) none = xs.drop k := by
  unfold cutV
  rw [HT.sIx_none, HT.sIx_nat]
  by_cases h : k ≤ xs.length
  · rw [Nat.min_eq_left h, List.take_of_length_le (by rw [List.length_drop]; exact Nat.le_refl _)]
  · rw [Nat.min_eq_right (by omega), List.drop_of_length_le (Nat.le_refl _), List.drop_of_length_le (by omega), List.take_nil]
/-- pages -/
def Pgs (l : List Int) : Prop := ∀ z ∈ l, 0 ≤ z ∧ z ≤ 39
theorem pgs_ok {l : List Int} (h : Pgs l) : pgsB 40 (l.map V.int) = true := by
  refine List.all_eq_true.mpr fun x hx => ?_
  obtain ⟨z, hz, rfl⟩ := List.mem_map.mp hx
  have := h z hz
  show (decide (0 ≤ z) && decide (z ≤ 40 - 1)) = true
  rw [decide_eq_true this.1, decide_eq_true (by omega : z ≤ 40 - 1)]
  rfl
theorem okv_nums {H : Hp} {a : Addr} {l : List Int} (e : H a = some (.lst (l.map V.int))) (hl : l.length ≤ 4000) : OkV H (.ref a) := by
  refine ⟨.inl ⟨_, e⟩, fun b xs eb eo => ?_⟩
  cases eb
  rw [e] at eo
  cases eo
  refine ⟨by rw [List.length_map]; exact hl, fun y hy => ?_⟩
  obtain ⟨z, _, rfl⟩ := List.mem_map.mp hy
  exact trivial
theorem vis_ok {H : Hp} {a : Addr} {l : List Int} (e : H a = some (.lst (l.map V.int))) (hl : l.length ≤ 300) (h : Pgs l) : itemsB visB H (.ref a) = true := by
  rw [itemsB_lst e]
  unfold visB
  rw [pgs_ok h, List.length_map]
  exact decide_eq_true hl
theorem trl_ok {H : Hp} {a : Addr} {l : List Int} (e : H a = some (.lst (l.map V.int))) (hn : l.Nodup) (h : Pgs l) : itemsB (difB 40) H (.ref a) = true := by
  rw [itemsB_lst e]
  unfold difB
  rw [pgs_ok h, nums_map]
  exact decide_eq_true hn
/-- the trails after each of the visits -/
def scan (t l : List Int) : List (List Int) := (List.range l.length).map fun i => play t (l.take (i + 1))

theorem FunD_ok0 {P : Program} {w : World} {K : PySem.W.Frag} {mg : PySem.Str → Option Value} {base : Heap} {x qual : PySem.Str} {params : Arguments} {body : List Stmt}
    {scope : Scope} {dvs : List V} {kws : List (PySem.Str × V)} {f : Addr} {fd : FuncData} {N ps : List PySem.Str} {k : Nat} {sp : Sp}
    (F : FunD K x qual params body scope dvs kws f fd) (S : FnScope N ps scope) (len : ∀ vs H Q E, sp vs H Q E → vs.length = ps.length)
    (hb : ∀ (cdv : Value) (A : Around) (outer : List Env) (s : Shared) (H : Hp) (vs : List V) (Q : VK) (E : XK),
      Room k (A.deeper (envOfC qual scope s.heap.objs.size f cdv)) → sp vs H Q E →
      ∃ t, PSs (cxOf CX0 P w K mg base N qual scope f cdv A outer s H E).nox body t ∧ t { nx := fun _ H' => Q .non H', rt := Q } (start N vs) H) :
    FnOk P w K mg base CX0 (k + 1) f fd ps sp :=
  F.ok S len fun cdv A outer s H vs Q E hr hsp => by
    obtain ⟨t, h, q⟩ := hb cdv A outer s H vs Q E hr hsp
    exact ⟨t, h.nox, q⟩

/-! ### lists of lists of ints -/
def Rows (H : Hp) : List Addr → List (List Int) → Prop := Paired fun a t => H a = some (.lst (t.map V.int))
theorem Rows.kept {H H' : Hp} : ∀ {as : List Addr} {ts : List (List Int)}, Rows H as ts → (∀ a ∈ as, H' a = H a) → Rows H' as ts
  | _, _, .nil, _ => .nil
  | _, _, .cons h r, k => .cons ((k _ List.mem_cons_self).trans h) (Rows.kept r fun a ha => k a (List.mem_cons_of_mem _ ha))
theorem Rows.same {H H' : Hp} (s : Same H H') : ∀ {as : List Addr} {ts : List (List Int)}, Rows H as ts → Rows H' as ts
  | _, _, .nil => .nil
  | _, _, .cons h r => .cons (s _ _ h) (Rows.same s r)
theorem Rows.snoc {H : Hp} {a : Addr} {t : List Int} (h : H a = some (.lst (t.map V.int))) : ∀ {as : List Addr} {ts : List (List Int)}, Rows H as ts → Rows H (as ++ [a]) (ts ++ [t])
  | _, _, .nil => .cons h .nil
  | _, _, .cons h' r => .cons h' (Rows.snoc h r)
theorem Rows.at {H : Hp} : ∀ {as : List Addr} {ts : List (List Int)} {i : Nat} {a : Addr}, Rows H as ts → as[i]? = some a → ∃ t, ts[i]? = some t ∧ H a = some (.lst (t.map V.int))
  | _, _, 0, _, .cons h _, e => by
    cases (Option.some.inj e)
    exact ⟨_, rfl, h⟩
  | _, _, i + 1, _, .cons _ r, e => Rows.at (i := i) r e
theorem Rows.mem {H : Hp} : ∀ {as : List Addr} {ts : List (List Int)} {a : Addr}, Rows H as ts → a ∈ as → ∃ t ∈ ts, H a = some (.lst (t.map V.int))
  | _, _, _, .nil, h => nomatch h
  | _, _, _, .cons h r, m => by
    rcases List.mem_cons.mp m with rfl | m
    · exact ⟨_, List.mem_cons_self, h⟩
    · obtain ⟨t, ht, e⟩ := Rows.mem r m
      exact ⟨t, List.mem_cons_of_mem _ ht, e⟩
theorem Rows.length {H : Hp} {as : List Addr} {ts : List (List Int)} (r : Rows H as ts) : as.length = ts.length := Paired.length r
def nnD (ts : List (List Int)) : PyData := .list (ts.map nD)
theorem dpa_rows {K : PySem.W.Frag} {H : Hp} : ∀ {as : List Addr} {ts : List (List Int)}, Rows H as ts → DpAll K H (as.map V.ref) (ts.map nD)
  | _, _, .nil => .nil
  | _, _, .cons h r => .cons (dp_nD (.inl (.inl h))) (dpa_rows r)
theorem dp_nnD {K : PySem.W.Frag} {H : Hp} {a : Addr} {as : List Addr} {ts : List (List Int)} (h : H a = some (.lst (as.map V.ref))) (r : Rows H as ts) : Dp K H (.ref a) (nnD ts) := .lst (.inl (.inl h)) (dpa_rows r)
theorem sh_nnD {ts : List (List Int)} {m : Nat} (h : ∀ t ∈ ts, t.length ≤ m ∧ ∀ z ∈ t, 0 ≤ z ∧ z ≤ 1000) : Sh 2 (ts.length * (m + 1)) (nnD ts) := by
  have h1 : Sh (1 + 1) ((ts.map nD).length * (m + 1)) (.list (ts.map nD)) := sh_list fun d hd => by
    obtain ⟨t, ht, rfl⟩ := List.mem_map.mp hd
    have := h t ht
    exact (sh_nD this.2).mono (Nat.le_refl _) this.1
  rw [List.length_map] at h1
  exact h1
theorem play_nodup_step {t : List Int} {p : Int} (h : t.Nodup) : (vis t p).Nodup := by
  unfold vis
  split
  · exact h.sublist (List.take_sublist _ _)
  · rename_i hp
    rw [List.nodup_append]
    refine ⟨h, by simp, fun a ha b hb e => ?_⟩
    rw [List.mem_singleton.mp hb] at e
    exact hp (e ▸ ha)
theorem play_nodup : ∀ (l : List Int) {t : List Int}, t.Nodup → (play t l).Nodup
  | [], _, h => h
  | p :: l, _, h => play_nodup l (play_nodup_step h)

/-! ### the same rules where the written part is named (in a comprehension's block) -/
section
variable {X : Cx} {K : PySem.W.Frag}
theorem ix_listK (hK : X.K = K) : IxR X (rIxL K) := hK ▸ ix_list
theorem ix_tupK (hK : X.K = K) : IxR X (rIxT K) := hK ▸ ix_tup
theorem sl_listK (hK : X.K = K) : SlR X (rSlL K) := hK ▸ sl_list
theorem op_inK (hK : X.K = K) : OpR X (compareOp .In) (rIn K false) := hK ▸ op_in_seq
theorem op_notInK (hK : X.K = K) : OpR X (compareOp .NotIn) (rIn K true) := hK ▸ op_notIn_seq
def rLenK (K : PySem.W.Frag) : List V → Hp → VK → Prop := fun xs H Q => ∃ p ys, xs = [.ref p] ∧ (SqL K H p ys ∨ SqT K H p ys) ∧ Q (.int ys.length) H
theorem call_lenK (hK : X.K = K) : CallR X (.builtin "len") (rLenK K) := hK ▸ call_len_seq
theorem call_isiK' (hK : X.K = K) : CallR X (.builtin "isinstance") (rIsi K) := hK ▸ call_isi
theorem mt_indexK (hK : X.K = K) : MtR X "list.index" (rIndex K) := hK ▸ mt_index
variable {o e : Expr} {es : List Expr} {to : TE} {t : TA} {name : PySem.Str} {apos cpos : Pos} {T id : String} {r : V → List V → Hp → VK → Prop}
theorem pe_bmK (hK : X.K = K) (pa : PlainAttrs T) (slot : Slot T name id) (hty : typeOf (.builtin id) = pure (.type "method_descriptor")) (hm : MtR X id r)
    (ho : PE X o to) (ha : PA X (e :: es) t) (hbase : attributeBase o name X.env (eval o X.env) = eval o X.env := by rfl)
    (hfew : ((backTo cpos (starEach (e :: es) X.env)).all (fun x => !x.1) && (backToKw cpos (keywordEach [] X.env)).all (fun x => x.1.isSome)
      && decide ((e :: es).length + ([] : List Keyword).length + (if ([] : List Keyword).isEmpty then 0 else 1) < 30)) = true := by rfl)
    (hline : (apos.endLine == cpos.line) = true := by rfl) (hs : starEach (e :: es) X.env = (false, eval e X.env) :: starEach es X.env := by rfl)
    (hplain : (backTo cpos (starEach es X.env)).any (·.1) = false := by rfl) :
    PE X (.Call (.Attribute o name apos) (e :: es) [] cpos) (tBM K T r to t) := by
  subst hK
  exact pe_bm pa slot hty hm ho ha hbase hfew hline hs hplain
end

theorem mapI_erase : ∀ (l : List Int) (j : Nat), (l.map V.int).eraseIdx j = (l.eraseIdx j).map V.int
  | [], _ => rfl
  | _ :: _, 0 => rfl
  | x :: l, j + 1 => by
    show V.int x :: (l.map V.int).eraseIdx j = V.int x :: (l.eraseIdx j).map V.int
    rw [mapI_erase l j]
theorem seq_nat {k n : Nat} (h : k < n) : seqIndex? (k : Int) n = some k := by
  unfold seqIndex?
  simp
  omega

theorem perm_erase {α : Type} : ∀ {l : List α} {k : Nat} (h : k < l.length), (l[k] :: l.eraseIdx k).Perm l
  | [], _, h => absurd h (Nat.not_lt_zero _)
  | _ :: _, 0, _ => .refl _
  | x :: l, k + 1, h => by
    have hk : k < l.length := Nat.lt_of_succ_lt_succ h
    have ih := perm_erase (l := l) hk
    show (l[k] :: x :: l.eraseIdx k).Perm (x :: l)
    exact (List.Perm.swap _ _ _).trans (ih.cons x)

theorem scan_last (t : List Int) : ∀ l : List Int, (t :: scan t l).getLast (List.cons_ne_nil _ _) = play t l := by
  intro l
  by_cases e : l = []
  · subst e
    rfl
  · have h0 : 0 < l.length := List.length_pos_iff.mpr e
    have h1 : scan t l ≠ [] := by
      unfold scan
      intro z
      have := congrArg List.length z
      rw [List.length_map, List.length_range] at this
      exact e (List.length_eq_zero_iff.mp this)
    rw [List.getLast_cons h1, List.getLast_eq_getElem]
    have hl : (scan t l).length = l.length := by
      unfold scan
      rw [List.length_map, List.length_range]
    have e2 : (scan t l)[(scan t l).length - 1]'(by omega) = play t (l.take (l.length - 1 + 1)) := by
      unfold scan
      rw [List.getElem_map, List.getElem_range, List.length_map, List.length_range]
    rw [e2, show l.length - 1 + 1 = l.length by omega, List.take_length]
theorem Rows.last {H : Hp} : ∀ {as : List Addr} {ts : List (List Int)} (h : Rows H as ts) (ne : ts ≠ []), ∃ x, atI (as.map V.ref) (-1) = some (.ref x) ∧ H x = some (.lst ((ts.getLast ne).map V.int)) := by
  intro as ts h ne
  have hl := h.length
  have ha : as ≠ [] := fun z => by
    subst z
    exact ne (List.length_eq_zero_iff.mp hl.symm)
  have e : as.map V.ref = as.dropLast.map V.ref ++ [.ref (as.getLast ha)] := by
    rw [← List.map_singleton, ← List.map_append, List.dropLast_concat_getLast]
  refine ⟨as.getLast ha, by rw [e]; exact atI_last _ _, ?_⟩
  have pos : 0 < as.length := List.length_pos_iff.mpr ha
  have g : as[as.length - 1]? = some (as.getLast ha) := by
    rw [List.getLast_eq_getElem, List.getElem?_eq_getElem]
  obtain ⟨t, ht, eo⟩ := h.at g
  have et : t = ts.getLast ne := by
    rw [List.getLast_eq_getElem]
    rw [hl, List.getElem?_eq_getElem (by omega)] at ht
    exact (Option.some.inj ht).symm
  rw [← et]
  exact eo
theorem scan_len (t l : List Int) : (scan t l).length = l.length := by
  unfold scan
  rw [List.length_map, List.length_range]

theorem pgs0 : Pgs [] := fun _ h => nomatch h
/-- the script, beside a pool -/
def Apart (K : PySem.W.Frag) (a p : Addr) (xs : List V) : Prop := a ≠ p ∨ ∀ H' : Hp, SqL K H' a xs
theorem But.seq2 {K : PySem.W.Frag} {p a : Addr} {H H' : Hp} {xs : List V} (s : But p H H') (n : Apart K a p xs) (h : SqL K H a xs) : SqL K H' a xs := by
  rcases n with n | n
  · exact s.seq n h
  · exact n H'
theorem apart_of {K : PySem.W.Frag} {a p : Addr} {H : Hp} {xs : List V} (h : SqL K H a xs) (hp : H p = none) : Apart K a p xs := by
  rcases h with h | h
  · left
    intro e
    subst e
    rcases h with h | ⟨o, h⟩ <;> (rw [hp] at h; cases h)
  · exact .inr fun H' => .inr h
theorem take_filter {α : Type} (f : α → Bool) {l : List α} {i : Nat} {x : α} (h : l[i]? = some x) :
    (l.take (i + 1)).filter f = (l.take i).filter f ++ (if f x = true then [x] else []) := by
  rw [List.take_add_one, h, List.filter_append]
  congr 1
  show List.filter f [x] = _
  rw [List.filter_cons]
  rfl
theorem at_nums {ns : List Int} {i : Nat} {x : V} (h : (ns.map V.int)[i]? = some x) : ∃ z, ns[i]? = some z ∧ x = .int z := by
  rw [List.getElem?_map] at h
  cases e : ns[i]? with
  | none => rw [e] at h; cases h
  | some z => rw [e] at h; cases h; exact ⟨z, rfl, rfl⟩

/-! ### repr of a value that may be, or hold, an empty dict -/
section
variable {prog : Program} {w : World} {A : Around} {E : Value → Shared → Prop} {s : Shared} {h₀ : Heap}
def ItemOk (h₀ : Heap) (k : Nat) (u : Value) (d : PyData) : Prop := ∃ as, Reads h₀ u d as ∧ d.showable = true ∧ (d.hasDict = true → sysModules ∉ as) ∧ d.shown.length ≤ sizeLine ∧ d.depth ≤ k
theorem items_K {k : Nat} : ∀ {us : List Value} {ds : List PyData}, Paired (ItemOk h₀ k) us ds →
    ∃ bs, ReadAtMost h₀ k bs ∧ ReprAllK prog w bs h₀ k us (PyData.shownAll ds)
  | _, _, .nil => ⟨[], (fun _ z => nomatch z), by simp only [PyData.shownAll]; exact ReprAllK.nil⟩
  | _, _, .cons h r => by
    obtain ⟨as, r1, h1, h2, h3, h4⟩ := h
    obtain ⟨b1, m1, k1⟩ := ReprK.of_reads (prog := prog) (w := w) r1 h1 h2 h3
    obtain ⟨b2, m2, k2⟩ := items_K r
    refine ⟨b1 ++ b2, (m1.mono h4).append m2, ?_⟩
    have c1 := ReprAllK.more_le (as' := b1 ++ b2) (d' := k) (fun b hb => List.mem_append_left _ hb) h4 (ReprAllK.cons k1 ReprAllK.nil)
    have c2 := k2.more_le (as' := b1 ++ b2) (d' := k) (fun b hb => List.mem_append_right _ hb) (Nat.le_refl k)
    simp only [PyData.shownAll]
    cases c1 with
    | cons a1 _ => exact ReprAllK.cons a1 c2
theorem reads_of_items {k : Nat} : ∀ {us : List Value} {ds : List PyData}, Paired (ItemOk h₀ k) us ds → ∃ as, ReadsAll h₀ us ds as
  | _, _, .nil => ⟨_, .nil⟩
  | _, _, .cons h r => by
    obtain ⟨as, r1, _⟩ := h
    obtain ⟨bs, r2⟩ := reads_of_items r
    exact ⟨_, .cons r1 r2⟩
theorem shownAll_len : ∀ ds : List PyData, (PyData.shownAll ds).length = ds.length
  | [] => by simp only [PyData.shownAll, List.length_nil]
  | d :: ds => by
    simp only [PyData.shownAll, List.length_cons]
    rw [shownAll_len ds]
theorem depth_items {k : Nat} : ∀ {us : List Value} {ds : List PyData}, Paired (ItemOk h₀ k) us ds → PyData.depthAll ds ≤ k
  | _, _, .nil => by simp only [PyData.depthAll]; exact Nat.zero_le _
  | _, _, .cons h r => by
    obtain ⟨as, _, _, _, _, h4⟩ := h
    simp only [PyData.depthAll]
    exact Nat.max_le.mpr ⟨h4, depth_items r⟩
theorem repr_mixed {a : Addr} {us : List Value} {n k : Nat} {ds : List PyData} {Q : Value → Shared → Prop}
    (e : s.heap.get? a = some { cls := .type "list", data := .seq us.toArray n }) (hp : Paired (ItemOk s.heap k) us ds)
    (hG : A.guards = some []) (hu : A.units + (k + 3) < cLine) (hk : PyData.depthAll ds = k)
    (hsz : (PyData.list ds).shown.length ≤ sizeLine)
    (hQ : ∀ h' u tk, (∀ b o, s.heap.get? b = some o → h'.get? b = some o) → Q (.str (PyData.list ds).shown u) { s with heap := h', toks := tk }) :
    wpAny (model prog w) A (call (.builtin "repr") [.ref a]) Q E s := by
  refine call_repr_slot (by omega) ⟨_, e, rfl⟩ F.slot_list_repr.toG ?_
  have sh : (PyData.list ds).shown = listText (PyData.shownAll ds) := by simp only [PyData.shown]
  rw [sh] at hsz hQ
  cases us with
  | nil =>
    cases hp
    exact call_list_repr_empty ⟨_, e, rfl⟩ e rfl ⟨_, _, rfl, hQ s.heap _ _ fun _ _ z => z⟩
  | cons u us =>
    obtain ⟨bs, m, K⟩ := items_K (prog := prog) (w := w) hp
    obtain ⟨as, R⟩ := reads_of_items hp
    have r : Reads s.heap (.ref a) (.list ds) (a :: as) := Reads.list e rfl rfl (by simpa using R)
    have na : a ∉ bs := not_mem_of_deeper (n := k) r (by simp only [PyData.depth]; omega) m
    refine call_list_reprK e rfl rfl na (by simpa using K.length_eq) (fun i y z => K.item i y (by simpa using z)) hG (fun b _ => Clear.nil b) (show A.units + 1 + (k + 1) < cLine by omega) (fun _ _ z => z) (fun h' u' tk hkp => ⟨_, _, rfl, hQ h' u' tk hkp⟩) hsz
end
/-- an item: data without a dict, or an empty dict -/
def D0 (K : PySem.W.Frag) (H : Hp) (x : V) (d : PyData) : Prop := (Dp K H x d ∧ Sh 10 500 d) ∨ ∃ a, x = .ref a ∧ H a = some (.dK []) ∧ d = .dict []
/-- what repr shows -/
def Shw (K : PySem.W.Frag) (H : Hp) (x : V) (t : PySem.Str) : Prop :=
  (∃ d, Dp K H x d ∧ Sh 20 300000 d ∧ t = d.shown) ∨ (∃ a, x = .ref a ∧ H a = some (.dK []) ∧ t = (PyData.dict []).shown) ∨
    ∃ a xs ds, x = .ref a ∧ H a = some (.lst xs) ∧ Paired (D0 K H) xs ds ∧ xs.length ≤ 700 ∧ t = (PyData.list ds).shown
mutual
theorem dp_same {K : PySem.W.Frag} {H H' : Hp} (s : Same H H') : ∀ {v : V} {d : PyData}, Dp K H v d → Dp K H' v d
  | _, _, .non => .non
  | _, _, .bl b => .bl b
  | _, _, .int i => .int i
  | _, _, .str x => .str x
  | _, _, .lst h r => .lst (s.seq h) (dpa_same s r)
  | _, _, .tup h r => .tup (by
      rcases h with (h | ⟨o, h⟩) | h
      · exact .inl (.inl (s _ _ h))
      · exact .inl (.inr ⟨o, s _ _ h⟩)
      · exact .inr h) (dpa_same s r)
theorem dpa_same {K : PySem.W.Frag} {H H' : Hp} (s : Same H H') : ∀ {vs : List V} {ds : List PyData}, DpAll K H vs ds → DpAll K H' vs ds
  | _, _, .nil => .nil
  | _, _, .cons h r => .cons (dp_same s h) (dpa_same s r)
end
theorem d0_same {K : PySem.W.Frag} {H H' : Hp} (s : Same H H') : ∀ {xs : List V} {ds : List PyData}, Paired (D0 K H) xs ds → Paired (D0 K H') xs ds
  | _, _, .nil => .nil
  | _, _, .cons h r => .cons (by
      rcases h with ⟨h, z⟩ | ⟨a, rfl, e, rfl⟩
      · exact .inl ⟨dp_same s h, z⟩
      · exact .inr ⟨a, rfl, s _ _ e, rfl⟩) (d0_same s r)
theorem Shw.same {K : PySem.W.Frag} {H H' : Hp} (s : Same H H') {x : V} {t : PySem.Str} (h : Shw K H x t) : Shw K H' x t := by
  rcases h with ⟨d, h, z⟩ | ⟨a, rfl, e, rfl⟩ | ⟨a, xs, ds, rfl, e, h, z⟩
  · exact .inl ⟨d, dp_same s h, z⟩
  · exact .inr (.inl ⟨a, rfl, s _ _ e, rfl⟩)
  · exact .inr (.inr ⟨a, xs, ds, rfl, s _ _ e, d0_same s h, z⟩)
section
variable {X : Cx} {pins : List (Addr × Obj)} {σ : L2.St} {H : Hp} {s : Shared}
theorem item_of (I : Inv X pins σ H s) {x : V} {u : Value} {d : PyData} (h : D0 X.K H x d) (r : RelV x u) : ItemOk s.heap 10 u d := by
  rcases h with ⟨h, z⟩ | ⟨a, rfl, e, rfl⟩
  · obtain ⟨as, hr⟩ := Dp.reads I d x u h r
    exact ⟨as, hr, z.showable, PyData.noDict_hsm z.noDict, z.fits (by decide), z.deep⟩
  · cases (show u = Value.ref a from r)
    obtain ⟨_, hsys, vs, kv, o, es, ep, e1, ex, e2, _, hm, _⟩ := (show ObjOk X.prog X.w H s.heap a (.dK []) from I.hok a _ e)
    cases kv
    have el : es.toList = [] := by
      cases hq : es.toList with
      | nil => rfl
      | cons x r =>
        rw [hq] at hm
        cases hm
    have rd : Reads s.heap (.ref a) (.dict []) (a :: [] ++ []) := Reads.dict e1 ex.1 e2 (by rw [el]; exact ReadsAll.nil) (by rw [el]; exact ReadsAll.nil)
    refine ⟨_, rd, by simp only [PyData.showable, PyData.showableKv], fun _ z => ?_, by simp only [PyData.shown, PyData.shownKv]; decide, by simp only [PyData.depth, PyData.depthKv]; decide⟩
    have : sysModules = a := by simpa using z
    rw [← this] at hsys
    exact absurd hsys (by simp)
theorem items_of (I : Inv X pins σ H s) : ∀ {xs : List V} {us : List Value} {ds : List PyData}, Paired (D0 X.K H) xs ds → Vals xs us → Paired (ItemOk s.heap 10) us ds
  | _, _, _, .nil, .nil => .nil
  | _, _, _, .cons h r, .cons h2 r2 => .cons (item_of I h h2) (items_of I r r2)
theorem Paired.mapK {k m : Nat} : ∀ {us : List Value} {ds : List PyData}, Paired (ItemOk s.heap k) us ds → PyData.depthAll ds ≤ m → Paired (ItemOk s.heap m) us ds
  | _, _, .nil, _ => .nil
  | _, _, .cons h r, hd => by
    simp only [PyData.depthAll] at hd
    obtain ⟨as, h1, h2, h3, h4, h5⟩ := h
    exact .cons ⟨as, h1, h2, h3, h4, Nat.le_trans (Nat.le_max_left _ _) hd⟩ (Paired.mapK r (Nat.le_trans (Nat.le_max_right _ _) hd))
theorem bulk_items : ∀ {xs : List V} {ds : List PyData}, Paired (D0 X.K H) xs ds → PyData.leavesShortAll 40 ds = true ∧ PyData.bulkAll ds ≤ ds.length * 501
  | _, _, .nil => by
    simp only [PyData.leavesShortAll, PyData.bulkAll]
    exact ⟨trivial, Nat.zero_le _⟩
  | _, _, .cons h r => by
    obtain ⟨h1, h2⟩ := bulk_items r
    have hd : ∀ {x : V} {d : PyData}, D0 X.K H x d → d.leavesShort 40 = true ∧ d.bulk ≤ 500 := by
      rintro x d (⟨_, z⟩ | ⟨a, rfl, _, rfl⟩)
      · exact ⟨z.short, z.bulk⟩
      · simp only [PyData.leavesShort, PyData.leavesShortKv, PyData.bulk, PyData.bulkKv]
        exact ⟨trivial, Nat.zero_le _⟩
    obtain ⟨h3, h4⟩ := hd h
    simp only [PyData.leavesShortAll, PyData.bulkAll]
    rw [h3, h1, List.length_cons, Nat.add_mul]
    exact ⟨rfl, by omega⟩
def rShowA (K : PySem.W.Frag) : List V → Hp → VK → Prop := fun xs H Q => ∃ x t, xs = [x] ∧ Shw K H x t ∧ Q (.str t) H
theorem call_showA (hG : X.A.guards = some []) (hu : X.A.units + 200 < cLine) : CallR X (.builtin "repr") (rShowA X.K) := by
  intro pins s σ H xs us Q I r h
  obtain ⟨x, t, rfl, h, q⟩ := h
  obtain ⟨u, rfl, rx⟩ := vals1 r
  rcases h with ⟨d, hd, z, rfl⟩ | ⟨a, rfl, e, rfl⟩ | ⟨a, xs, ds, rfl, e, hp, hl, rfl⟩
  · have fit := z.fits (by decide)
    cases hd with
    | non =>
      cases rx
      exact P.repr_of_none ⟨.str "None", H, I.tok _, ⟨_, rfl⟩, q⟩
    | bl b =>
      cases rx
      cases b
      · exact P.repr_of_bool ⟨.str (PyData.bool false).shown, H, I.tok _, ⟨_, rfl⟩, q⟩
      · exact P.repr_of_bool ⟨.str (PyData.bool true).shown, H, I.tok _, ⟨_, rfl⟩, q⟩
    | int i =>
      obtain ⟨tk, rfl⟩ := rx
      have hz : i.natAbs.log2 < 1920 := by
        have := z.showable
        simp only [PyData.showable] at this
        exact of_decide_eq_true this
      exact P.repr_of_int hz ⟨.str (PyData.int i).shown, H, I.tok _, ⟨_, rfl⟩, q⟩
    | str y =>
      obtain ⟨tk, rfl⟩ := rx
      exact P.repr_of_str ⟨.str (PyData.str y).shown, H, I.tok _, ⟨_, rfl⟩, q⟩ fit
    | @lst a xs ds hs ha =>
      obtain ⟨as, hr⟩ := Dp.reads I (.list ds) (.ref a) u (.lst hs ha) rx
      cases (show u = Value.ref a from rx)
      exact repr_of_reads' hr z.showable (PyData.noDict_hsm z.noDict) hG (by have := z.deep; omega) (fun _ _ e => e)
        (fun h' u tk hk => ⟨.str (PyData.list ds).shown, H, I.kept hk, ⟨_, rfl⟩, q⟩) fit
    | @tup a xs ds hs ha =>
      obtain ⟨as, hr⟩ := Dp.reads I (.tuple ds) (.ref a) u (.tup hs ha) rx
      cases (show u = Value.ref a from rx)
      exact repr_of_reads' hr z.showable (PyData.noDict_hsm z.noDict) hG (by have := z.deep; omega) (fun _ _ e => e)
        (fun h' u tk hk => ⟨.str (PyData.tuple ds).shown, H, I.kept hk, ⟨_, rfl⟩, q⟩) fit
  · obtain ⟨as, hr, h1, h2, h3, h4⟩ := item_of I (d := .dict []) (.inr ⟨a, rfl, e, rfl⟩) rx
    cases (show u = Value.ref a from rx)
    exact repr_of_reads' hr h1 h2 hG (by omega) (fun _ _ e => e) (fun h' u tk hk => ⟨.str (PyData.dict []).shown, H, I.kept hk, ⟨_, rfl⟩, q⟩) h3
  · cases (show u = Value.ref a from rx)
    obtain ⟨z, its, n, rv, hl', e1⟩ := I.lstM e
    have hi := items_of I hp rv
    obtain ⟨b1, b2⟩ := bulk_items hp
    have hdep := depth_items hi
    have hlen : ds.length = xs.length := (Paired.length hp).symm
    have fit : (PyData.list ds).shown.length ≤ sizeLine := by
      have b3 := PyData.shown_le_bulk 40 (by decide) (.list ds) (by simp only [PyData.leavesShort]; exact b1)
      have b4 : (PyData.list ds).bulk ≤ 700 * 501 := by
        simp only [PyData.bulk]
        exact Nat.le_trans b2 (Nat.mul_le_mul_right _ (by omega))
      have e16 : sizeLine = 16777216 := by decide
      rw [e16]
      omega
    exact repr_mixed e1 (Paired.mapK hi (Nat.le_refl _)) hG (show X.A.units + (PyData.depthAll ds + 3) < cLine by omega) rfl fit
      fun h' u tk hk => ⟨.str (PyData.list ds).shown, H, I.kept hk, ⟨_, rfl⟩, q⟩
end

/-! ### judged values in a later heap -/
theorem okv_same {H H' : Hp} (s : Same H H') {x : V} (h : OkV H x) : OkV H' x := by
  refine ⟨h.1.same s, fun a xs ex e => ?_⟩
  subst ex
  rcases h.1 with ⟨ys, e1⟩ | ⟨ys, e1⟩ | ⟨ks, e1⟩
  · have e2 := s _ _ e1
    rw [e] at e2
    cases e2
    obtain ⟨h1, h2⟩ := h.2 a xs rfl e1
    exact ⟨h1, fun y hy => (h2 y hy).same s⟩
  · have e2 := s _ _ e1
    rw [e] at e2
    cases e2
  · have e2 := s _ _ e1
    rw [e] at e2
    cases e2
theorem itemsB_same {f : List V → Bool} {H H' : Hp} (s : Same H H') : ∀ {x : V}, Kn H x → itemsB f H' x = itemsB f H x
  | .non, _ => rfl
  | .bl _, _ => rfl
  | .int _, _ => rfl
  | .str _, _ => rfl
  | .ref a, h => by
    show (match H' a with
      | some (.lst xs) => f xs
      | _ => false) = (match H a with
      | some (.lst xs) => f xs
      | _ => false)
    rcases h with ⟨xs, e⟩ | ⟨xs, e⟩ | ⟨ks, e⟩ <;> rw [s _ _ e, e]
theorem vis_le {H : Hp} {x : V} {a : Addr} {xs : List V} (h : OkV H x) (ex : x = .ref a) (e : H a = some (.lst xs)) : xs.length ≤ 4000 := (h.2 a xs ex e).1
/-- a comprehension over enumerate(a list) -/
theorem lc_enum {K : PySem.W.Frag} {a : Addr} {xs : List V} {g : TG} {tt : TT} {te : TE} {vs : List Nat} {σ : L2.St} {H1 : Hp} {D : Addr} {Qd : Hp → Prop}
    (Pv : Nat → Hp → Prop) (h0 : Pv 0 (upd H1 D (.lst []))) (hl : ∀ i H, i ≤ xs.length → Pv i H → SqL K H a xs)
    (hs : ∀ i x H T, xs[i]? = some x → Pv i H → H T = none → g (.ref T) (wipe σ vs) (upd H T (.tup [.int (i : Nat), x])) fun σ2 H2 => wipe σ2 vs = wipe σ vs ∧ tt σ2 H2 fun b H3 =>
      if b = true then te σ2 H3 fun y H4 => ∃ acc, H4 D = some (.lst acc) ∧ acc.length < sizeLine ∧ Pv (i + 1) (upd H4 D (.lst (acc ++ [y]))) else Pv (i + 1) H3)
    (hd : ∀ H, Pv xs.length H → Qd H) :
    ∃ W : Nat → Nat → Hp → Prop, (∃ m, W 0 m (upd H1 D (.lst []))) ∧ ∀ i m H, W i m H →
      ((Ite K a).stop i H ∧ Qd H) ∨ ((Ite K a).go i H ∧ ∃ Nx : Hp → Prop, (∀ H', Nx H' → ∃ m', m' < m ∧ W (i + 1) m' H') ∧
        ∀ x H', (Ite K a).yld i H x H' → g x (wipe σ vs) H' fun σ2 H2 => wipe σ2 vs = wipe σ vs ∧ tt σ2 H2 fun b H3 =>
        if b = true then te σ2 H3 fun y H4 => ∃ acc, H4 D = some (.lst acc) ∧ acc.length < sizeLine ∧ Nx (upd H4 D (.lst (acc ++ [y]))) else Nx H3) := by
  refine ⟨fun i m H => m = xs.length - i ∧ i ≤ xs.length ∧ Pv i H, ⟨xs.length, rfl, Nat.zero_le _, h0⟩, fun i m H hW => ?_⟩
  obtain ⟨rfl, hi, p⟩ := hW
  have q := hl i H hi p
  by_cases lt : i < xs.length
  · refine .inr ⟨⟨xs, xs[i], q, List.getElem?_eq_getElem lt⟩, Pv (i + 1), fun H' p' => ⟨xs.length - (i + 1), by omega, rfl, lt, p'⟩, fun v H' y => ?_⟩
    obtain ⟨T, x, rfl, hT, rfl, f⟩ := y
    exact hs i x H T (f xs q) p hT
  · have e : i = xs.length := by omega
    subst e
    exact .inl ⟨⟨xs, q, Nat.le_refl _⟩, hd H p⟩
theorem nodup_take {ns : List Int} {i : Nat} {z : Int} (h : ns[i]? = some z) : (ns.take (i + 1)).Nodup ↔ (ns.take i).Nodup ∧ z ∉ ns.take i := by
  rw [List.take_add_one, h]
  show (ns.take i ++ [z]).Nodup ↔ _
  rw [List.nodup_append]
  constructor
  · rintro ⟨h1, _, h3⟩
    exact ⟨h1, fun hz => h3 z hz z (List.mem_singleton.mpr rfl) rfl⟩
  · rintro ⟨h1, h2⟩
    exact ⟨h1, List.pairwise_singleton _ _, fun a ha b hb e => h2 (by rw [List.mem_singleton.mp hb] at e; rw [← e]; exact ha)⟩

theorem pg_tupK {X : Cx} {K : PySem.W.Frag} {pos : Pos} {es : List Expr} {k : Nat} {t : TGs} {n : Nat} (hK : X.K = K) (hc : X.calm = true) (h : PGs X es t)
    (hn : (assignEach es X.env).length = n := by rfl) (hst : (assignEach es X.env).findIdx? (·.1) = none := by rfl) :
    PG X (.Tuple es k pos) (gTup K n t) := by
  subst hK
  exact pg_tup hc h hn hst

/-! ### good items, good values -/
theorem sh_big {z : Int} (h : z.natAbs < 10 ^ 38) : Sh 0 0 (.int z) where
  showable := by
    show decide (z.natAbs.log2 < 1920) = true
    refine decide_eq_true ?_
    by_cases e : z.natAbs = 0
    · rw [e]
      decide
    · refine (Nat.log2_lt e).mpr (Nat.lt_of_lt_of_le h ?_)
      exact Nat.le_trans (show 10 ^ 38 ≤ 2 ^ 128 by decide) (Nat.pow_le_pow_right (by decide) (by decide))
  noDict := by simp only [PyData.hasDict]
  lay := by simp only [PyData.canLay0]
  short := by
    simp only [PyData.leavesShort]
    have e := int_text_length_le10 (k := 38) (by decide) h
    have e2 : (PyData.shown (.int z)).length = (toString z).length := PySem.ofString_length _
    exact decide_eq_true (by rw [e2]; omega)
  deep := by simp only [PyData.depth]; exact Nat.le_refl 0
  bulk := by simp only [PyData.bulk]; exact Nat.le_refl 0
structure Gd (K : PySem.W.Frag) (H : Hp) (x : V) : Prop where
  kn : Kn H x
  d0 : ∃ d, D0 K H x d
theorem Gd.same {K : PySem.W.Frag} {H H' : Hp} {x : V} (s : Same H H') (h : Gd K H x) : Gd K H' x := by
  obtain ⟨d, hd⟩ := h.d0
  refine ⟨h.kn.same s, d, ?_⟩
  rcases hd with ⟨h1, z⟩ | ⟨a, rfl, e, rfl⟩
  · exact .inl ⟨dp_same s h1, z⟩
  · exact .inr ⟨a, rfl, s _ _ e, rfl⟩
theorem gd_int {K : PySem.W.Frag} {H : Hp} {z : Int} (h : z.natAbs < 10 ^ 38) : Gd K H (.int z) := ⟨trivial, _, .inl ⟨.int z, (sh_big h).mono (by decide) (by decide)⟩⟩
theorem gd_bl {K : PySem.W.Frag} {H : Hp} (b : Bool) : Gd K H (.bl b) := by
  refine ⟨trivial, _, .inl ⟨.bl b, ?_⟩⟩
  cases b <;> exact ⟨by simp only [PyData.showable], by simp only [PyData.hasDict], by simp only [PyData.canLay0], by simp only [PyData.leavesShort], by simp only [PyData.depth]; decide, by simp only [PyData.bulk]; decide⟩
theorem gd_non {K : PySem.W.Frag} {H : Hp} : Gd K H .non :=
  ⟨trivial, _, .inl ⟨.non, by simp only [PyData.showable], by simp only [PyData.hasDict], by simp only [PyData.canLay0], by simp only [PyData.leavesShort], by simp only [PyData.depth]; decide, by simp only [PyData.bulk]; decide⟩⟩
theorem gd_str {K : PySem.W.Frag} {H : Hp} {x : PySem.Str} (h : PyData.canLay0 (.str x) = true) (h2 : PyData.leavesShort 40 (.str x) = true) (h3 : x.cps.size ≤ 400) : Gd K H (.str x) :=
  ⟨trivial, _, .inl ⟨.str x, by simp only [PyData.showable], by simp only [PyData.hasDict], h, h2, by simp only [PyData.depth]; decide, by simp only [PyData.bulk]; omega⟩⟩
theorem gd_dict {K : PySem.W.Frag} {H : Hp} {a : Addr} (e : H a = some (.dK [])) : Gd K H (.ref a) := ⟨.inr (.inr ⟨_, e⟩), _, .inr ⟨a, rfl, e, rfl⟩⟩
theorem gd_tup1 {K : PySem.W.Frag} {H : Hp} {a : Addr} (e : H a = some (.tup [.int 1])) : Gd K H (.ref a) := by
  refine ⟨.inr (.inl ⟨_, e⟩), .tuple [.int 1], .inl ⟨.tup (.inl (.inl e)) (.cons (.int 1) .nil), ?_⟩⟩
  exact (sh_tuple (k := 0) (n := 0) (ds := [.int 1]) fun d hd => by rw [List.mem_singleton.mp hd]; exact sh_int (by decide)).mono (by decide) (by decide)
theorem gd_nums {K : PySem.W.Frag} {H : Hp} {a : Addr} {l : List Int} (e : H a = some (.lst (l.map V.int))) (h : ∀ z ∈ l, 0 ≤ z ∧ z ≤ 1000) (hl : l.length ≤ 500) : Gd K H (.ref a) :=
  ⟨.inl ⟨_, e⟩, nD l, .inl ⟨dp_nD (.inl (.inl e)), (sh_nD h).mono (by decide) hl⟩⟩
theorem gd_paired {K : PySem.W.Frag} {H : Hp} : ∀ {xs : List V}, (∀ x ∈ xs, Gd K H x) → ∃ ds, Paired (D0 K H) xs ds
  | [], _ => ⟨[], .nil⟩
  | x :: xs, h => by
    obtain ⟨d, hd⟩ := (h x List.mem_cons_self).d0
    obtain ⟨ds, hp⟩ := gd_paired fun y hy => h y (List.mem_cons_of_mem _ hy)
    exact ⟨d :: ds, .cons hd hp⟩
/-- a value to be judged and shown -/
def Jd (K : PySem.W.Frag) (H : Hp) (x : V) : Prop := OkV H x ∧ ∃ t, Shw K H x t
theorem Jd.same {K : PySem.W.Frag} {H H' : Hp} {x : V} (s : Same H H') (h : Jd K H x) : Jd K H' x := by
  obtain ⟨h1, t, h2⟩ := h
  exact ⟨okv_same s h1, t, h2.same s⟩
theorem jd_list {K : PySem.W.Frag} {H : Hp} {a : Addr} {xs : List V} (e : H a = some (.lst xs)) (hl : xs.length ≤ 700) (h : ∀ x ∈ xs, Gd K H x) : Jd K H (.ref a) := by
  obtain ⟨ds, hp⟩ := gd_paired h
  refine ⟨⟨.inl ⟨_, e⟩, fun b ys eb ey => ?_⟩, _, .inr (.inr ⟨a, xs, ds, rfl, e, hp, hl, rfl⟩)⟩
  cases eb
  rw [e] at ey
  cases ey
  exact ⟨by omega, fun y hy => (h y hy).kn⟩
theorem jd_gd {K : PySem.W.Frag} {H : Hp} {x : V} (h : Gd K H x) (hn : ∀ a xs, x = .ref a → H a ≠ some (.lst xs)) : Jd K H x := by
  refine ⟨⟨h.kn, fun a xs ex e => absurd e (hn a xs ex)⟩, ?_⟩
  obtain ⟨d, hd⟩ := h.d0
  rcases hd with ⟨h1, z⟩ | ⟨a, rfl, e, rfl⟩
  · exact ⟨_, .inl ⟨d, h1, z.mono (by decide) (by decide), rfl⟩⟩
  · exact ⟨_, .inr (.inl ⟨a, rfl, e, rfl⟩)⟩
theorem jd_tup {K : PySem.W.Frag} {H : Hp} {a : Addr} {l : List Int} (e : H a = some (.tup (l.map V.int))) (h : ∀ z ∈ l, 0 ≤ z ∧ z ≤ 1000) (hl : l.length ≤ 1000) : Jd K H (.ref a) := by
  refine ⟨⟨.inr (.inl ⟨_, e⟩), fun b ys eb ey => ?_⟩, _, .inl ⟨.tuple (l.map .int), .tup (.inl (.inl e)) (dpa_nums l), ?_, rfl⟩⟩
  · cases eb
    rw [e] at ey
    cases ey
  · have h1 := sh_tuple (k := 0) (n := 0) (ds := l.map PyData.int) fun d hd => by
      obtain ⟨z, hz, rfl⟩ := List.mem_map.mp hd
      have := h z hz
      exact sh_int (by omega)
    rw [List.length_map] at h1
    exact h1.mono (by decide) (by omega)
theorem mem_rep {α : Type} {k : Nat} {xs : List α} {x : α} (h : x ∈ (List.replicate k xs).flatten) : x ∈ xs := by
  obtain ⟨l, hl, hx⟩ := List.mem_flatten.mp h
  rw [List.eq_of_mem_replicate hl] at hx
  exact hx
theorem len_rep {α : Type} (k : Nat) (xs : List α) : (List.replicate k xs).flatten.length = k * xs.length := by
  rw [List.length_flatten, List.map_replicate, List.sum_replicate_nat]
end Vf

set_option maxRecDepth 100000
set_option maxHeartbeats 4000000
namespace Vf
open PySem PySem.Spec PyProof.Rows L2
def topS (i : Nat) : Stmt := PySem.Challenge.pw_breadcrumbs_k73_trails_after_visits.main.body.getD i (.Pass ⟨0, 0, 0, 0⟩)
abbrev s__law_pool : Stmt := topS 19
abbrev N__law_pool : List PySem.Str := ["_law_script", "_law_k", "_law_cell"]
theorem sc__law_pool : FnScope N__law_pool ["_law_script", "_law_k"] (defScope s__law_pool) := ⟨rfl, rfl, rfl, by decide +kernel, rfl, by decide +kernel, by decide +kernel⟩
abbrev s__law_draw : Stmt := topS 20
abbrev N__law_draw : List PySem.Str := ["_law_pool_here", "_law_many", "_law_digit", "_law_mixed"]
theorem sc__law_draw : FnScope N__law_draw ["_law_pool_here", "_law_many"] (defScope s__law_draw) := ⟨rfl, rfl, rfl, by decide +kernel, rfl, by decide +kernel, by decide +kernel⟩
abbrev s__law_line : Stmt := topS 21
abbrev N__law_line : List PySem.Str := ["_law_pool_here", "_law_script", "_law_many", "_law_style", "_law_wide", "_law_low", "_law_found", "_law_turn", "_law_fresh", "_law_step", "_law_last", "_law_spot"]
theorem sc__law_line : FnScope N__law_line ["_law_pool_here", "_law_script"] (defScope s__law_line) := ⟨rfl, rfl, rfl, by decide +kernel, rfl, by decide +kernel, by decide +kernel⟩
abbrev s__law_some : Stmt := topS 24
abbrev N__law_some : List PySem.Str := ["_law_pool_here", "_law_most", "_law_left", "_law_turn"]
theorem sc__law_some : FnScope N__law_some ["_law_pool_here", "_law_most"] (defScope s__law_some) := ⟨rfl, rfl, rfl, by decide +kernel, rfl, by decide +kernel, by decide +kernel⟩
abbrev s_is_int : Stmt := topS 6
abbrev N_is_int : List PySem.Str := ["value"]
theorem sc_is_int : FnScope N_is_int ["value"] (defScope s_is_int) := ⟨rfl, rfl, rfl, by decide +kernel, rfl, by decide +kernel, by decide +kernel⟩
abbrev s_is_between : Stmt := topS 7
abbrev N_is_between : List PySem.Str := ["value", "low", "high"]
theorem sc_is_between : FnScope N_is_between ["value", "low", "high"] (defScope s_is_between) := ⟨rfl, rfl, rfl, by decide +kernel, rfl, by decide +kernel, by decide +kernel⟩
abbrev s_are_pages : Stmt := topS 8
abbrev N_are_pages : List PySem.Str := ["value", "many", "item"]
theorem sc_are_pages : FnScope N_are_pages ["value", "many"] (defScope s_are_pages) := ⟨rfl, rfl, rfl, by decide +kernel, rfl, by decide +kernel, by decide +kernel⟩
abbrev s_is_visits : Stmt := topS 12
abbrev N_is_visits : List PySem.Str := ["value"]
theorem sc_is_visits : FnScope N_is_visits ["value"] (defScope s_is_visits) := ⟨rfl, rfl, rfl, by decide +kernel, rfl, by decide +kernel, by decide +kernel⟩
abbrev s_check_visits : Stmt := topS 15
abbrev N_check_visits : List PySem.Str := ["visits"]
theorem sc_check_visits : FnScope N_check_visits ["visits"] (defScope s_check_visits) := ⟨rfl, rfl, rfl, by decide +kernel, rfl, by decide +kernel, by decide +kernel⟩
abbrev s_are_different_pages : Stmt := topS 9
abbrev N_are_different_pages : List PySem.Str := ["value", "many"]
theorem sc_are_different_pages : FnScope N_are_different_pages ["value", "many"] (defScope s_are_different_pages) := ⟨rfl, rfl, rfl, by decide +kernel, rfl, by decide +kernel, by decide +kernel⟩
abbrev s_is_trail : Stmt := topS 13
abbrev N_is_trail : List PySem.Str := ["value"]
theorem sc_is_trail : FnScope N_is_trail ["value"] (defScope s_is_trail) := ⟨rfl, rfl, rfl, by decide +kernel, rfl, by decide +kernel, by decide +kernel⟩
abbrev s_check_trail : Stmt := topS 16
abbrev N_check_trail : List PySem.Str := ["trail"]
theorem sc_check_trail : FnScope N_check_trail ["trail"] (defScope s_check_trail) := ⟨rfl, rfl, rfl, by decide +kernel, rfl, by decide +kernel, by decide +kernel⟩
abbrev s_visited : Stmt := topS 17
abbrev N_visited : List PySem.Str := ["trail", "page"]
theorem sc_visited : FnScope N_visited ["trail", "page"] (defScope s_visited) := ⟨rfl, rfl, rfl, by decide +kernel, rfl, by decide +kernel, by decide +kernel⟩
abbrev s_trail_after : Stmt := topS 14
abbrev N_trail_after : List PySem.Str := ["visits", "start", "trail", "page"]
theorem sc_trail_after : FnScope N_trail_after ["visits", "start"] (defScope s_trail_after) := ⟨rfl, rfl, rfl, by decide +kernel, rfl, by decide +kernel, by decide +kernel⟩
abbrev s__law_after : Stmt := topS 22
abbrev N__law_after : List PySem.Str := ["_law_row", "_law_spot"]
theorem sc__law_after : FnScope N__law_after ["_law_row", "_law_spot"] (defScope s__law_after) := ⟨rfl, rfl, rfl, by decide +kernel, rfl, by decide +kernel, by decide +kernel⟩
abbrev s__law_trails : Stmt := topS 23
abbrev N__law_trails : List PySem.Str := ["_law_row", "_law_line_here", "_law_found", "_law_spot"]
theorem sc__law_trails : FnScope N__law_trails ["_law_row", "_law_line_here"] (defScope s__law_trails) := ⟨rfl, rfl, rfl, by decide +kernel, rfl, by decide +kernel, by decide +kernel⟩
abbrev s__law_right : Stmt := topS 25
abbrev N__law_right : List PySem.Str := ["_law_line_here", "_law_row", "_law_before", "_law_plain", "_law_due", "_law_told"]
theorem sc__law_right : FnScope N__law_right ["_law_line_here", "_law_row"] (defScope s__law_right) := ⟨rfl, rfl, rfl, by decide +kernel, rfl, by decide +kernel, by decide +kernel⟩
abbrev s_law : Stmt := topS 26
abbrev N_law : List PySem.Str := ["_law_script", "_law_k", "_law_pool_here", "_law_line_here", "_law_row", "_law_turn", "_law_far"]
theorem sc_law : FnScope N_law ["_law_script"] (defScope s_law) := ⟨rfl, rfl, rfl, by decide +kernel, rfl, by decide +kernel, by decide +kernel⟩
structure Top (K : PySem.W.Frag) (mg : PySem.Str → Option Value) where
  a__law_pool : Addr
  d__law_pool : FuncData
  F__law_pool : Fun K "_law_pool" "_law_pool" s__law_pool a__law_pool d__law_pool
  g__law_pool : mg "_law_pool" = some (.ref a__law_pool)
  b__law_pool : Binds K d__law_pool ["_law_script", "_law_k"] []
  a__law_draw : Addr
  d__law_draw : FuncData
  F__law_draw : Fun K "_law_draw" "_law_draw" s__law_draw a__law_draw d__law_draw
  g__law_draw : mg "_law_draw" = some (.ref a__law_draw)
  b__law_draw : Binds K d__law_draw ["_law_pool_here", "_law_many"] []
  a__law_line : Addr
  d__law_line : FuncData
  F__law_line : Fun K "_law_line" "_law_line" s__law_line a__law_line d__law_line
  g__law_line : mg "_law_line" = some (.ref a__law_line)
  b__law_line : Binds K d__law_line ["_law_pool_here", "_law_script"] []
  a__law_some : Addr
  d__law_some : FuncData
  F__law_some : Fun K "_law_some" "_law_some" s__law_some a__law_some d__law_some
  g__law_some : mg "_law_some" = some (.ref a__law_some)
  b__law_some : Binds K d__law_some ["_law_pool_here", "_law_most"] []
  a_is_int : Addr
  d_is_int : FuncData
  F_is_int : Fun K "is_int" "is_int" s_is_int a_is_int d_is_int
  g_is_int : mg "is_int" = some (.ref a_is_int)
  b_is_int : Binds K d_is_int ["value"] []
  a_is_between : Addr
  d_is_between : FuncData
  F_is_between : Fun K "is_between" "is_between" s_is_between a_is_between d_is_between
  g_is_between : mg "is_between" = some (.ref a_is_between)
  b_is_between : Binds K d_is_between ["value", "low", "high"] []
  a_are_pages : Addr
  d_are_pages : FuncData
  F_are_pages : Fun K "are_pages" "are_pages" s_are_pages a_are_pages d_are_pages
  g_are_pages : mg "are_pages" = some (.ref a_are_pages)
  b_are_pages : Binds K d_are_pages ["value", "many"] []
  a_is_visits : Addr
  d_is_visits : FuncData
  F_is_visits : Fun K "is_visits" "is_visits" s_is_visits a_is_visits d_is_visits
  g_is_visits : mg "is_visits" = some (.ref a_is_visits)
  b_is_visits : Binds K d_is_visits ["value"] []
  a_check_visits : Addr
  d_check_visits : FuncData
  F_check_visits : Fun K "check_visits" "check_visits" s_check_visits a_check_visits d_check_visits
  g_check_visits : mg "check_visits" = some (.ref a_check_visits)
  b_check_visits : Binds K d_check_visits ["visits"] []
  a_are_different_pages : Addr
  d_are_different_pages : FuncData
  F_are_different_pages : Fun K "are_different_pages" "are_different_pages" s_are_different_pages a_are_different_pages d_are_different_pages
  g_are_different_pages : mg "are_different_pages" = some (.ref a_are_different_pages)
  b_are_different_pages : Binds K d_are_different_pages ["value", "many"] []
  a_is_trail : Addr
  d_is_trail : FuncData
  F_is_trail : Fun K "is_trail" "is_trail" s_is_trail a_is_trail d_is_trail
  g_is_trail : mg "is_trail" = some (.ref a_is_trail)
  b_is_trail : Binds K d_is_trail ["value"] []
  a_check_trail : Addr
  d_check_trail : FuncData
  F_check_trail : Fun K "check_trail" "check_trail" s_check_trail a_check_trail d_check_trail
  g_check_trail : mg "check_trail" = some (.ref a_check_trail)
  b_check_trail : Binds K d_check_trail ["trail"] []
  a_visited : Addr
  d_visited : FuncData
  F_visited : Fun K "visited" "visited" s_visited a_visited d_visited
  g_visited : mg "visited" = some (.ref a_visited)
  b_visited : Binds K d_visited ["trail", "page"] []
  a_trail_after : Addr
  d_trail_after : FuncData
  F_trail_after : FunD K "trail_after" "trail_after" (defArgs s_trail_after) (defBody s_trail_after) (defScope s_trail_after) [] [("start", V.non)] a_trail_after d_trail_after
  g_trail_after : mg "trail_after" = some (.ref a_trail_after)
  ds_trail_after : List Value
  dv_trail_after : Vals [V.non] ds_trail_after
  b_trail_after : Binds K d_trail_after ["visits", "start"] ds_trail_after
  kn_trail_after : KBn K d_trail_after ["visits", "start"] 1 ["start"] (fun us ws => us ++ ws) (fun vs zs => vs ++ zs)
  a__law_after : Addr
  d__law_after : FuncData
  F__law_after : Fun K "_law_after" "_law_after" s__law_after a__law_after d__law_after
  g__law_after : mg "_law_after" = some (.ref a__law_after)
  b__law_after : Binds K d__law_after ["_law_row", "_law_spot"] []
  a__law_trails : Addr
  d__law_trails : FuncData
  F__law_trails : Fun K "_law_trails" "_law_trails" s__law_trails a__law_trails d__law_trails
  g__law_trails : mg "_law_trails" = some (.ref a__law_trails)
  b__law_trails : Binds K d__law_trails ["_law_row", "_law_line_here"] []
  a__law_right : Addr
  d__law_right : FuncData
  F__law_right : Fun K "_law_right" "_law_right" s__law_right a__law_right d__law_right
  g__law_right : mg "_law_right" = some (.ref a__law_right)
  b__law_right : Binds K d__law_right ["_law_line_here", "_law_row"] []
  a_law : Addr
  d_law : FuncData
  F_law : Fun K "law" "law" s_law a_law d_law
  g_law : mg "law" = some (.ref a_law)
  b_law : Binds K d_law ["_law_script"] []
  t_PAGES : Tok
  g_PAGES : mg "PAGES" = some (.int (40) t_PAGES)
  t_MOST_VISITS : Tok
  g_MOST_VISITS : mg "MOST_VISITS" = some (.int (300) t_MOST_VISITS)
  n_len : mg "len" = none
  n_max : mg "max" = none
  n_range : mg "range" = none
  n_list : mg "list" = none
  n_isinstance : mg "isinstance" = none
  n_int : mg "int" = none
  n_bool : mg "bool" = none
  n_all : mg "all" = none
  n_set : mg "set" = none
  n_repr : mg "repr" = none
  n_min : mg "min" = none
  kb_trail_after_visits_start : KBinds0 K d_trail_after ["visits", "start"] ["visits", "start"] (fun zs => match zs with | [z0, z1] => [z0, z1] | _ => [])
  kb_trail_after_start_visits : KBinds0 K d_trail_after ["visits", "start"] ["start", "visits"] (fun zs => match zs with | [z0, z1] => [z1, z0] | _ => [])
section
variable {P : Program} {w : World} {K : PySem.W.Frag} {mg : PySem.Str → Option Value} {base : Heap}
def sp__law_pool (K : PySem.W.Frag) : Sp := fun vs H Q _ => ∃ (a : Addr) (ns : List Int) (k : Nat), vs = [.ref a, .int k] ∧ SqL K H a (ns.map V.int) ∧ k ≤ 100 ∧ ∀ H' p, Same H H' → H p = none → Pl H' p 0 → Q (.ref p) H'
theorem ok__law_pool (T : Top K mg) :
    FnOk P w K mg base CX0 1 T.a__law_pool T.d__law_pool ["_law_script", "_law_k"] (sp__law_pool K) := by
  refine T.F__law_pool.ok sc__law_pool (fun vs H Q E h => ?_) (fun cdv A outer s H vs Q E hr h => ?_)
  · obtain ⟨a, ns, k, rfl, _⟩ := h
    rfl
  · obtain ⟨a, ns, k, rfl, hS, hk, q⟩ := h
    have nd := sc__law_pool.nd
    have hu := hu_of hr
    have hU := units_of hr
    have hu64 := u64_of hr
    refine ⟨_, (pss_cons (ps_set (i := 2) nd rfl (Or.inl rfl) pe_int)
      (pss_cons (ps_if (pt_cmpR op_lt (pv 1) (pe_callB call_len_seq (by rfl) T.n_len (by decide +kernel) (pa_cons (pv 0) pa_nil)) (nomark _)) (pss_one (ps_set (i := 2) nd rfl (Or.inl rfl) (pe_ix ix_list (pv 0) (pv 1) (fun _ _ => rfl)))) pss_nil)
      (pss_one (ps_ret (pe_lst (pa_cons (pe_callB (call_max2 rfl) (by rfl) T.n_max (by decide +kernel) (pa_cons pe_int (pa_cons (pe_op op_sub (pv 2) (pe_op op_pow pe_int pe_int)) pa_nil))) (pa_cons (pe_op op_add (pe_op op_mul (pe_op op_mod (pv 2) (pe_op op_add (pe_op op_pow pe_int pe_int) pe_int)) pe_int) (pv 1)) (pa_cons pe_int pa_nil)))))))), ?_⟩
    have fin : ∀ z : Int, ∀ pp, H pp = none → Q (.ref pp) (upd H pp (.lst [.int (if z - (10 : Int) ^ (18 : Int).toNat > 0 then z - (10 : Int) ^ (18 : Int).toNat else 0), .int (z % ((10 : Int) ^ (40 : Int).toNat + 121) * 64 + k), .int 0])) := by
      intro z pp hp
      refine q _ pp (same_new hp) hp ⟨_, _, _, upd_same, ?_, ?_, ?_, by omega, by omega⟩
      · split <;> omega
      · rw [pw40]
        omega
      · rw [pw40, e2_160]
        omega
    refine ⟨_, rfl, .ref a, rfl, a, _, rfl, .inl hS, _, _, rfl, rfl, _, rfl, ite2 (fun c => ?_) (fun c => ?_)⟩
    · have hlt : k < ns.length := by
        have c' := of_decide_eq_true c
        rw [List.length_map] at c'
        omega
      have g : (ns.map V.int)[k]? = some (.int ns[k]) := by
        rw [List.getElem?_map, List.getElem?_eq_getElem hlt]
        rfl
      refine ⟨.ref a, rfl, _, rfl, a, _, _, _, rfl, rfl, hS, atI_nat g, ?_⟩
      refine ⟨_, rfl, _, _, rfl, rfl, pow_ok 18 (by decide) (by decide), _, _, rfl, rfl, _, _, rfl, ?_⟩
      refine ⟨_, rfl, _, _, rfl, rfl, pow_ok 40 (by decide) (by decide), _, _, rfl, rfl, _, _, rfl, rfl, (by show (0 : Int) < _; rw [pw40]; decide), _, _, rfl, rfl, .inr ⟨by decide, by decide⟩, _, rfl, _, _, rfl, rfl, (by show 3 ≤ sizeLine; decide), fin _⟩
    · refine ⟨_, rfl, _, _, rfl, rfl, pow_ok 18 (by decide) (by decide), _, _, rfl, rfl, _, _, rfl, ?_⟩
      refine ⟨_, rfl, _, _, rfl, rfl, pow_ok 40 (by decide) (by decide), _, _, rfl, rfl, _, _, rfl, rfl, (by show (0 : Int) < _; rw [pw40]; decide), _, _, rfl, rfl, .inr ⟨by decide, by decide⟩, _, rfl, _, _, rfl, rfl, (by show 3 ≤ sizeLine; decide), fin _⟩
def sp__law_draw (K : PySem.W.Frag) : Sp := fun vs H Q _ => ∃ (p : Addr) (m : Int) (n : Nat), vs = [.ref p, .int m] ∧ Pl H p n ∧ n ≤ 1000000 ∧ 1 ≤ m ∧ m ≤ 1000000 ∧
  ∀ H' (r : Int), But p H H' → Pl H' p (n + 1) → 0 ≤ r → r < m → Q (.int r) H'
theorem ok__law_draw (T : Top K mg) :
    FnOk P w K mg base CX0 1 T.a__law_draw T.d__law_draw ["_law_pool_here", "_law_many"] (sp__law_draw K) := by
  refine T.F__law_draw.ok sc__law_draw (fun vs H Q E h => ?_) (fun cdv A outer s H vs Q E hr h => ?_)
  · obtain ⟨p, m, n, rfl, _⟩ := h
    rfl
  · obtain ⟨p, m, n, rfl, hP, hn, hm, hm2, q⟩ := h
    have nd := sc__law_draw.nd
    have hu := hu_of hr
    have hU := units_of hr
    have hu64 := u64_of hr
    refine ⟨_, (pss_cons (ps_if (pt_cmpR op_gt (pe_ix ix_list (pv 0) pe_int (fun _ _ => rfl)) pe_int (nomark _)) (pss_cons (ps_set (i := 2) nd rfl (Or.inl rfl) (pe_op op_mod (pe_ix ix_list (pv 0) pe_int (fun _ _ => rfl)) (pv 1)))
      (pss_cons (ps_asg (pe_op op_fdiv (pe_ix ix_list (pv 0) pe_int (fun _ _ => rfl)) (pv 1)) (pg_sub (pv 0) pe_int set_list))
      (pss_one (ps_ret (pv 2))))) pss_nil)
      (pss_cons (ps_asg (pe_op op_add (pe_ix ix_list (pv 0) pe_int (fun _ _ => rfl)) pe_int) (pg_sub (pv 0) pe_int set_list))
      (pss_cons (ps_set (i := 3) nd rfl (Or.inl rfl) (pe_op op_mod (pe_op op_powG (pe_op op_add (pe_ix ix_list (pv 0) pe_int (fun _ _ => rfl)) (pe_op op_mul pe_int (pe_ix ix_list (pv 0) pe_int (fun _ _ => rfl)))) pe_int) (pe_op op_add (pe_op op_pow pe_int pe_int) pe_int)))
      (pss_cons (ps_set (i := 3) nd rfl (Or.inl rfl) (pe_op op_mod (pe_op op_powG (pe_op op_add (pv 3) (pe_op op_mul pe_int (pe_ix ix_list (pv 0) pe_int (fun _ _ => rfl)))) pe_int) (pe_op op_add (pe_op op_pow pe_int pe_int) pe_int)))
      (pss_one (ps_ret (pe_op op_mod (pe_op op_fdiv (pv 3) pe_int) (pv 1)))))))), ?_⟩
    obtain ⟨a, b, c, ep, ha, hb, hb2, hc, hcn⟩ := hP
    rw [e2_160] at hb2
    have S0 : SqL K H p [.int a, .int b, .int c] := .inl (.inl ep)
    refine ⟨.ref p, rfl, p, _, 0, .int a, rfl, rfl, S0, atI_nat (j := 0) rfl, _, _, rfl, rfl, _, rfl, ite2 (fun d => ?_) (fun d => ?_)⟩
    · refine ⟨.ref p, rfl, p, _, 0, .int a, rfl, rfl, S0, atI_nat (j := 0) rfl, _, rfl, _, _, rfl, rfl, (by show 0 < m; omega), ?_⟩
      refine ⟨.ref p, rfl, p, _, 0, .int a, rfl, rfl, S0, atI_nat (j := 0) rfl, _, rfl, _, _, rfl, rfl, ⟨by omega, by omega⟩, ?_⟩
      refine ⟨.ref p, rfl, p, _, 0, 0, rfl, rfl, ep, rfl, _, rfl, ?_⟩
      exact q _ _ But.upd ⟨_, _, _, upd_same, Int.ediv_nonneg ha (by omega), hb, by rw [e2_160]; exact hb2, hc, by omega⟩ (Int.emod_nonneg _ (by omega)) (Int.emod_lt_of_pos _ (by omega))
    · refine ⟨.ref p, rfl, p, _, 2, .int c, rfl, rfl, S0, atI_nat (j := 2) rfl, _, _, rfl, rfl, ?_⟩
      refine ⟨.ref p, rfl, p, _, 2, 2, rfl, rfl, ep, rfl, ?_⟩
      have e1 : upd H p (.lst [.int a, .int b, .int (c + 1)]) p = some (.lst [.int a, .int b, .int (c + 1)]) := upd_same
      have S1 : SqL K (upd H p (.lst [.int a, .int b, .int (c + 1)])) p [.int a, .int b, .int (c + 1)] := .inl (.inl e1)
      refine ⟨.ref p, rfl, p, _, 1, .int b, rfl, rfl, S1, atI_nat (j := 1) rfl, .ref p, rfl, p, _, 2, .int (c + 1), rfl, rfl, S1, atI_nat (j := 2) rfl, _, _, rfl, rfl, .inl ⟨by decide, by decide⟩, _, _, rfl, rfl, _, _, rfl, rfl, cube_of (by omega) (by omega), ?_⟩
      refine ⟨_, _, rfl, rfl, pow_ok 41 (by decide) (by decide), _, _, rfl, rfl, _, _, rfl, rfl, (by show (0 : Int) < _; rw [pw41]; decide), ?_⟩
      rw [pw41]
      have m0 := Int.emod_nonneg ((b + 69061 * (c + 1)) ^ (3 : Int).toNat) (show (100000000000000000000000000000000000000000 + 37 : Int) ≠ 0 by decide)
      have m1 := Int.emod_lt_of_pos ((b + 69061 * (c + 1)) ^ (3 : Int).toNat) (show (0 : Int) < 100000000000000000000000000000000000000000 + 37 by decide)
      generalize (b + 69061 * (c + 1)) ^ (3 : Int).toNat % (100000000000000000000000000000000000000000 + 37) = z at m0 m1 ⊢
      refine ⟨_, rfl, .ref p, rfl, p, _, 2, .int (c + 1), rfl, rfl, S1, atI_nat (j := 2) rfl, _, _, rfl, rfl, .inl ⟨by decide, by decide⟩, _, _, rfl, rfl, _, _, rfl, rfl, cube_of (by omega) (by omega), ?_⟩
      refine ⟨_, _, rfl, rfl, pow_ok 38 (by decide) (by decide), _, _, rfl, rfl, _, _, rfl, rfl, (by show (0 : Int) < _; rw [pw38]; decide), ?_⟩
      refine ⟨_, rfl, _, _, rfl, rfl, ⟨by decide, by decide⟩, _, rfl, _, _, rfl, rfl, (by show 0 < m; omega), ?_⟩
      exact q _ _ But.upd ⟨a, b, c + 1, e1, ha, hb, by rw [e2_160]; exact hb2, by omega, by omega⟩ (Int.emod_nonneg _ (by omega)) (Int.emod_lt_of_pos _ (by omega))
def sp__law_line (K : PySem.W.Frag) : Sp := fun vs H Q _ => ∃ (p a : Addr) (ns : List Int) (n : Nat), vs = [.ref p, .ref a] ∧ Pl H p n ∧ n ≤ 900000 ∧ SqL K H a (ns.map V.int) ∧ Apart K a p (ns.map V.int) ∧
  ∀ H' l (row : List Int), But p H H' → Pl H' p (n + 700) → H l = none → H' l = some (.lst (row.map V.int)) → 1 ≤ row.length → row.length ≤ 300 →
    (∀ z ∈ row, 0 ≤ z ∧ z ≤ 39) → Q (.ref l) H'
theorem ok__law_line (T : Top K mg)
    (G__law_draw : FnOk P w K mg base CX0 1 T.a__law_draw T.d__law_draw ["_law_pool_here", "_law_many"] (sp__law_draw K)) :
    FnOk P w K mg base CX0 2 T.a__law_line T.d__law_line ["_law_pool_here", "_law_script"] (sp__law_line K) := by
  refine T.F__law_line.ok sc__law_line (fun vs H Q E h => ?_) (fun cdv A outer s H vs Q E hr h => ?_)
  · obtain ⟨p, a, ns, n, rfl, _⟩ := h
    rfl
  · obtain ⟨p, a, ns, n, rfl, hP, hn, hS, hap, q⟩ := h
    have nd := sc__law_line.nd
    have hu := hu_of hr
    have hU := units_of hr
    have hu64 := u64_of hr
    refine ⟨_, (pss_cons (ps_par (i := 2) (j := 3) rfl nd rfl rfl (by decide) rfl rfl (pa_cons (pe_ix ix_list (pe_lst (pa_cons (pe_op op_add pe_int (pe_call G__law_draw (hr.mono (by decide)) (by rfl) T.g__law_draw T.F__law_draw.kp T.b__law_draw .nil pass0 (pa_cons (pv 0) (pa_cons pe_int pa_nil)))) (pa_cons (pe_op op_add pe_int (pe_call G__law_draw (hr.mono (by decide)) (by rfl) T.g__law_draw T.F__law_draw.kp T.b__law_draw .nil pass0 (pa_cons (pv 0) (pa_cons pe_int pa_nil)))) (pa_cons pe_int pa_nil)))) (pe_call G__law_draw (hr.mono (by decide)) (by rfl) T.g__law_draw T.F__law_draw.kp T.b__law_draw .nil pass0 (pa_cons (pv 0) (pa_cons pe_int pa_nil))) (fun _ _ => rfl)) (pa_cons (pe_call G__law_draw (hr.mono (by decide)) (by rfl) T.g__law_draw T.F__law_draw.kp T.b__law_draw .nil pass0 (pa_cons (pv 0) (pa_cons pe_int pa_nil))) pa_nil)) (by rfl))
      (pss_cons (ps_set (i := 4) nd rfl (Or.inl rfl) (pe_ix ix_list (pe_lst (pa_cons (pe_op op_add pe_int (pe_call G__law_draw (hr.mono (by decide)) (by rfl) T.g__law_draw T.F__law_draw.kp T.b__law_draw .nil pass0 (pa_cons (pv 0) (pa_cons pe_int pa_nil)))) (pa_cons (pe_op op_add pe_int (pe_call G__law_draw (hr.mono (by decide)) (by rfl) T.g__law_draw T.F__law_draw.kp T.b__law_draw .nil pass0 (pa_cons (pv 0) (pa_cons pe_int pa_nil)))) (pa_cons pe_int pa_nil)))) (pe_call G__law_draw (hr.mono (by decide)) (by rfl) T.g__law_draw T.F__law_draw.kp T.b__law_draw .nil pass0 (pa_cons (pv 0) (pa_cons pe_int pa_nil))) (fun _ _ => rfl)))
      (C8.pss_cut (ps_asg (pe_ifExp (pt_cmpR (op_eqD hu64) (pv 1) (pe_lst pa_nil) (nomark _)) (pe_tup (pa_cons pe_int (pa_cons pe_int (pa_cons pe_int pa_nil)))) (pe_tup (pa_cons (pv 2) (pa_cons (pv 4) (pa_cons (pv 3) pa_nil))))) (pg_tup rfl (pgs_cons (pg_name (i := 2) nd rfl (Or.inl rfl)) (pgs_cons (pg_name (i := 4) nd rfl (Or.inl rfl)) (pgs_cons (pg_name (i := 3) nd rfl (Or.inl rfl)) pgs_nil)))))
      (pss_cons (ps_par (i := 5) (j := 6) rfl nd rfl rfl (by decide) rfl rfl (pa_cons (pe_call G__law_draw (hr.mono (by decide)) (by rfl) T.g__law_draw T.F__law_draw.kp T.b__law_draw .nil pass0 (pa_cons (pv 0) (pa_cons (pe_op op_sub pe_int (pv 4)) pa_nil))) (pa_cons (pe_lst pa_nil) pa_nil)) (by rfl))
      (pss_cons (ps_for PassesOwn.never rfl (pi_range1 (by rfl) T.n_range (pa_cons (pv 2) pa_nil)) (pg_name (i := 7) nd rfl (Or.inl rfl)) (pss_cons (ps_par (i := 8) (j := 9) rfl nd rfl rfl (by decide) rfl rfl (pa_cons (pe_call G__law_draw (hr.mono (by decide)) (by rfl) T.g__law_draw T.F__law_draw.kp T.b__law_draw .nil pass0 (pa_cons (pv 0) (pa_cons (pv 4) pa_nil))) (pa_cons (pe_call G__law_draw (hr.mono (by decide)) (by rfl) T.g__law_draw T.F__law_draw.kp T.b__law_draw .nil pass0 (pa_cons (pv 0) (pa_cons pe_int pa_nil))) pa_nil)) (by rfl))
      (C8.pss_cut (ps_set (i := 10) nd rfl (Or.inl rfl) (pe_ifExp (pt_cmpR (op_neD hu64) (pv 6) (pe_lst pa_nil) (nomark _)) (pe_op op_sub (pe_ix ix_list (pv 6) (pe_un un_neg pe_int) (fun _ _ => rfl)) (pv 5)) (pv 8)))
      (C8.pss_cut (ps_set (i := 11) nd rfl (Or.inl rfl) (pe_ix ix_list (pe_lst (pa_cons (pv 8) (pa_cons (pe_op op_add (pv 10) (pe_ix ix_list (pe_lst (pa_cons pe_int (pa_cons (pe_op op_sub (pv 4) pe_int) pa_nil))) (pe_op op_mod (pv 9) pe_int) (fun _ _ => rfl))) (pa_cons (pe_ifExp (pt_cmpR op_gt (pv 9) pe_int (nomark _)) (pe_op op_add (pv 10) pe_int) (pv 8)) pa_nil)))) (pv 3) (fun _ _ => rfl)))
      (pss_one (ps_expr (pe_bm PySem.F.plainAttrs_list PySem.F.slot_list_append PySem.F.type_list_append mt_append (pv 6) (pa_cons (pe_op op_add (pv 5) (pe_op op_mod (pv 11) (pv 4))) pa_nil))))))))
      (pss_one (ps_ret (pv 6)))))))), ?_⟩
    obtain ⟨op, ep⟩ := hP.at
    -- many, style
    refine ⟨.ref p, rfl, p, 12, n, rfl, hP, by omega, by decide, by decide, fun H1 r1 b1 P1 l1 u1 => ⟨_, _, rfl, rfl, .ref p, rfl, p, 60, _, rfl, P1, by omega, by decide, by decide, fun H2 r2 b2 P2 l2 u2 => ⟨_, _, rfl, rfl, (by show 3 ≤ sizeLine; decide), fun L hL => ?_⟩⟩⟩
    have hLp : L ≠ p := fun e => by
      obtain ⟨o, eo⟩ := P2.at
      rw [e, eo] at hL
      cases hL
    have P3 := P2.same (same_new (o := .lst [V.int (1 + r1), V.int (1 + r2), V.int 300]) hL)
    refine ⟨.ref p, rfl, p, 3, _, rfl, P3, by omega, by decide, by decide, fun H4 r4 b4 P4 l4 u4 => ?_⟩
    have e4 : H4 L = some (.lst [V.int (1 + r1), V.int (1 + r2), V.int 300]) := b4 _ _ hLp upd_same
    obtain ⟨v, av, mv⟩ := at_ex (xs := [V.int (1 + r1), V.int (1 + r2), V.int 300]) l4 (by show r4 < 3; exact u4)
    obtain ⟨many, rfl, m1, m2⟩ : ∃ many : Int, v = .int many ∧ 1 ≤ many ∧ many ≤ 300 := by
      rcases List.mem_cons.mp mv with e | mv
      · exact ⟨_, e, by omega, by omega⟩
      rcases List.mem_cons.mp mv with e | mv
      · exact ⟨_, e, by omega, by omega⟩
      rcases List.mem_cons.mp mv with e | mv
      · exact ⟨_, e, by omega, by omega⟩
      · cases mv
    refine ⟨L, _, _, _, rfl, rfl, .inl (.inl e4), av, .ref p, rfl, p, 3, _, rfl, P4, by omega, by decide, by decide, fun H5 style b5 P5 l5 u5 => ⟨_, _, rfl, ?_⟩⟩
    -- wide
    refine ⟨.ref p, rfl, p, 5, _, rfl, P5, by omega, by decide, by decide, fun H6 r6 b6 P6 l6 u6 => ⟨_, _, rfl, rfl, .ref p, rfl, p, 40, _, rfl, P6, by omega, by decide, by decide, fun H7 r7 b7 P7 l7 u7 => ⟨_, _, rfl, rfl, (by show 3 ≤ sizeLine; decide), fun M hM => ?_⟩⟩⟩
    have hMp : M ≠ p := fun e => by
      obtain ⟨o, eo⟩ := P7.at
      rw [e, eo] at hM
      cases hM
    have P8 := P7.same (same_new (o := .lst [V.int (1 + r6), V.int (1 + r7), V.int 40]) hM)
    refine ⟨.ref p, rfl, p, 3, _, rfl, P8, by omega, by decide, by decide, fun H9 r9 b9 P9 l9 u9 => ?_⟩
    have e9 : H9 M = some (.lst [V.int (1 + r6), V.int (1 + r7), V.int 40]) := b9 _ _ hMp upd_same
    obtain ⟨v2, av2, mv2⟩ := at_ex (xs := [V.int (1 + r6), V.int (1 + r7), V.int 40]) l9 (by show r9 < 3; exact u9)
    obtain ⟨wide, rfl, w1, w2⟩ : ∃ wide : Int, v2 = .int wide ∧ 1 ≤ wide ∧ wide ≤ 40 := by
      rcases List.mem_cons.mp mv2 with e | mv2
      · exact ⟨_, e, by omega, by omega⟩
      rcases List.mem_cons.mp mv2 with e | mv2
      · exact ⟨_, e, by omega, by omega⟩
      rcases List.mem_cons.mp mv2 with e | mv2
      · exact ⟨_, e, by omega, by omega⟩
      · cases mv2
    refine ⟨M, _, _, _, rfl, rfl, .inl (.inl e9), av2, ?_⟩
    have B9 : But p H H9 := (((((((b1.trans b2).trans (.of_same (same_new hL))).trans b4).trans b5).trans b6).trans b7).trans (.of_same (same_new hM))).trans b9
    -- many, wide, style = ..
    refine ⟨fun σ H' => ∃ many style wide : Int, σ = [some (.ref p), some (.ref a), some (.int many), some (.int style), some (.int wide), none, none, none, none, none, none, none] ∧ But p H H' ∧ Pl H' p (n + 20) ∧ 1 ≤ many ∧ many ≤ 300 ∧ 0 ≤ style ∧ style < 3 ∧ 1 ≤ wide ∧ wide ≤ 40, ?_, ?_⟩
    · refine ⟨.ref a, rfl, Nat.zero_le _, fun Z hZ => ⟨nD ns, nD [], dp_nD ((But.of_same (p := p) (same_new hZ)).seq2 hap (B9.seq2 hap hS)), dp_nD (.inl (.inl upd_same)), nD_shaped _, nD_shaped _, _, rfl, ite2 (fun c => ?_) (fun c => ?_)⟩⟩
      · refine ⟨(by show 3 ≤ sizeLine; decide), fun T hT => ⟨T, _, rfl, .inl (.inl upd_same), rfl, _, _, rfl, _, _, rfl, _, _, rfl, rfl, 8, 0, 4, rfl, ?_, ?_, by decide, by decide, by decide, by decide, by decide, by decide⟩⟩
        · exact (B9.trans (.of_same (same_new hZ))).trans (.of_same (same_new hT))
        · exact (P9.mono (by omega)).same ((same_new hZ).trans (same_new hT))
      · refine ⟨_, rfl, _, rfl, _, rfl, (by show 3 ≤ sizeLine; decide), fun T hT => ⟨T, _, rfl, .inl (.inl upd_same), rfl, _, _, rfl, _, _, rfl, _, _, rfl, rfl, many, style, wide, rfl, ?_, ?_, m1, m2, l5, u5, w1, w2⟩⟩
        · exact (B9.trans (.of_same (same_new hZ))).trans (.of_same (same_new hT))
        · exact (P9.mono (by omega)).same ((same_new hZ).trans (same_new hT))
    clear av mv av2 mv2 m1 m2 w1 w2 l5 u5 B9 P9 P8 P7 P6 P5 P4 P3 P2 P1 e4 e9 b9 b7 b6 b5 b4 b2 b1
    rintro σ H' ⟨many, style, wide, rfl, B0, P0, m1, m2, l5, u5, w1, w2⟩
    -- low, found
    refine ⟨.ref p, rfl, _, rfl, _, _, rfl, rfl, p, 41 - wide, _, rfl, P0, by omega, by omega, by omega, fun H1 low b1 P1 lo1 lo2 => ⟨Nat.zero_le _, fun F hF => ⟨_, _, rfl, ?_⟩⟩⟩
    have hFp : F ≠ p := fun e => by
      obtain ⟨o, eo⟩ := P1.at
      rw [e, eo] at hF
      cases hF
    have hF0 : H F = none := (B0.trans b1).free hFp hF
    -- the loop
    refine ⟨_, rfl, many, rfl, by omega, by omega, for_range (fun i σ H2 => ∃ x7 x8 x9 x10 x11, ∃ row : List Int, σ = [some (.ref p), some (.ref a), some (.int many), some (.int style), some (.int wide), some (.int low), some (.ref F), x7, x8, x9, x10, x11] ∧ But p H H2 ∧ Pl H2 p (n + 21 + 2 * i) ∧ H2 F = some (.lst (row.map V.int)) ∧ row.length = i ∧ ∀ z ∈ row, 0 ≤ z ∧ z ≤ 39) ?_ (fun i σ H2 hi hW => ?_) (fun σ H2 hW => ?_)⟩
    · exact ⟨none, none, none, none, none, [], rfl, (B0.trans b1).trans (.of_same (same_new hF)), P1.same (same_new hF), upd_same, rfl, fun z hz => nomatch hz⟩
    · obtain ⟨x7, x8, x9, x10, x11, row, rfl, B2, P2, eF, hlen, hr⟩ := hW
      have hi' : i < 300 := by omega
      refine ⟨.ref p, rfl, _, rfl, p, wide, _, rfl, P2, by omega, by omega, by omega, fun H3 fresh b3 P3 f1 f2 => ⟨.ref p, rfl, p, 8, _, rfl, P3, by omega, by omega, by omega, fun H4 step b4 P4 s1 s2 => ⟨_, _, rfl, ?_⟩⟩⟩
      have eF4 : H4 F = some (.lst (row.map V.int)) := b4 _ _ hFp (b3 _ _ hFp eF)
      have B4 : But p H H4 := (B2.trans b3).trans b4
      -- last
      refine ⟨fun σ H' => ∃ last : Int, σ = [some (.ref p), some (.ref a), some (.int many), some (.int style), some (.int wide), some (.int low), some (.ref F), some (.int (0 + i)), some (.int fresh), some (.int step), some (.int last), x11] ∧ But p H H' ∧ Pl H' p (n + 21 + 2 * i + 2) ∧ H' F = some (.lst (row.map V.int)), ?_, ?_⟩
      · refine ⟨.ref F, rfl, Nat.zero_le _, fun Z hZ => ?_⟩
        have eF5 : upd H4 Z (.lst []) F = some (.lst (row.map V.int)) := (upd_ne (ne_of_none eF4 hZ)).trans eF4
        refine ⟨nD row, nD [], dp_nD (.inl (.inl eF5)), dp_nD (.inl (.inl upd_same)), nD_shaped _, nD_shaped _, _, rfl, ite2 (fun c => ?_) (fun c => ?_)⟩
        · rw [eqv_nD] at c
          have hne : row ≠ [] := fun z => by
            rw [decide_eq_true z] at c
            cases c
          exact ⟨.ref F, rfl, _, rfl, F, _, _, _, rfl, rfl, .inl (.inl eF5), at_back hne, _, rfl, _, _, rfl, rfl, _, rfl, B4.trans (.of_same (same_new hZ)), P4.same (same_new hZ), eF5⟩
        · exact ⟨_, rfl, _, rfl, B4.trans (.of_same (same_new hZ)), P4.same (same_new hZ), eF5⟩
      rintro σ H' ⟨last, rfl, B5, P5, eF5⟩
      -- spot
      refine ⟨fun σ H' => ∃ spot : Int, σ = [some (.ref p), some (.ref a), some (.int many), some (.int style), some (.int wide), some (.int low), some (.ref F), some (.int (0 + i)), some (.int fresh), some (.int step), some (.int last), some (.int spot)] ∧ But p H H' ∧ Pl H' p (n + 21 + 2 * i + 2) ∧ H' F = some (.lst (row.map V.int)), ?_, ?_⟩
      · refine ⟨_, rfl, _, rfl, _, rfl, _, _, rfl, rfl, (by show 2 ≤ sizeLine; decide), fun G hG => ⟨_, rfl, _, _, rfl, rfl, (by show (0 : Int) < 2; decide), ?_⟩⟩
        have g0 := Int.emod_nonneg step (show (2 : Int) ≠ 0 by decide)
        have g1 := Int.emod_lt_of_pos step (show (0 : Int) < 2 by decide)
        obtain ⟨v, av, mv⟩ := at_ex (xs := [V.int 1, V.int (wide - 1)]) g0 (by show step % 2 < 2; exact g1)
        obtain ⟨add, rfl⟩ : ∃ add : Int, v = .int add := by
          rcases List.mem_cons.mp mv with e | mv
          · exact ⟨_, e⟩
          rcases List.mem_cons.mp mv with e | mv
          · exact ⟨_, e⟩
          · cases mv
        refine ⟨G, _, _, _, rfl, rfl, .inl (.inl upd_same), av, _, _, rfl, rfl, _, rfl, _, _, rfl, rfl, _, rfl, ?_⟩
        have fin : ∀ (z3 : Int) (H6 : Hp), (But p H H6 ∧ Pl H6 p (n + 21 + 2 * i + 2) ∧ H6 F = some (.lst (row.map V.int))) → ∀ (M2 : Addr), H6 M2 = none → ∃ spot : Int, atI [V.int fresh, V.int (last + add), V.int z3] style = some (.int spot) ∧ (But p H (upd H6 M2 (.lst [V.int fresh, V.int (last + add), V.int z3])) ∧ Pl (upd H6 M2 (.lst [V.int fresh, V.int (last + add), V.int z3])) p (n + 21 + 2 * i + 2) ∧ upd H6 M2 (.lst [V.int fresh, V.int (last + add), V.int z3]) F = some (.lst (row.map V.int))) := by
          rintro z3 H6 ⟨c1, c2, c3⟩ M2 hM2
          obtain ⟨v, av, mv⟩ := at_ex (xs := [V.int fresh, V.int (last + add), V.int z3]) l5 (by show style < 3; exact u5)
          obtain ⟨spot, rfl⟩ : ∃ spot : Int, v = .int spot := by
            rcases List.mem_cons.mp mv with e | mv
            · exact ⟨_, e⟩
            rcases List.mem_cons.mp mv with e | mv
            · exact ⟨_, e⟩
            rcases List.mem_cons.mp mv with e | mv
            · exact ⟨_, e⟩
            · cases mv
          exact ⟨spot, av, c1.trans (.of_same (same_new hM2)), c2.same (same_new hM2), (upd_ne (ne_of_none c3 hM2)).trans c3⟩
        have c6 : But p H (upd H' G (.lst [V.int 1, V.int (wide - 1)])) ∧ Pl (upd H' G (.lst [V.int 1, V.int (wide - 1)])) p (n + 21 + 2 * i + 2) ∧ upd H' G (.lst [V.int 1, V.int (wide - 1)]) F = some (.lst (row.map V.int)) :=
          ⟨B5.trans (.of_same (same_new hG)), P5.same (same_new hG), (upd_ne (ne_of_none eF5 hG)).trans eF5⟩
        refine ite2 (fun c => ?_) (fun c => ?_)
        · refine ⟨_, rfl, _, _, rfl, rfl, (by show 3 ≤ sizeLine; decide), fun M2 hM2 => ?_⟩
          obtain ⟨spot, av2, f⟩ := fin _ _ c6 M2 hM2
          exact ⟨_, rfl, M2, _, _, _, rfl, rfl, .inl (.inl upd_same), av2, spot, rfl, f⟩
        · refine ⟨_, rfl, (by show 3 ≤ sizeLine; decide), fun M2 hM2 => ?_⟩
          obtain ⟨spot, av2, f⟩ := fin _ _ c6 M2 hM2
          exact ⟨_, rfl, M2, _, _, _, rfl, rfl, .inl (.inl upd_same), av2, spot, rfl, f⟩
      rintro σ H' ⟨spot, rfl, B6, P6, eF6⟩
      refine ⟨.ref F, rfl, .inl ⟨rfl, _, .inl (.inl eF6)⟩, _, rfl, _, rfl, _, rfl, _, _, rfl, rfl, (by show 0 < wide; omega), _, _, rfl, rfl, F, _, _, rfl, rfl, eF6, ?_, ?_⟩
      · rw [List.length_map, hlen]
        exact Nat.lt_trans hi' (by decide)
      · have k0 := Int.emod_nonneg spot (show wide ≠ 0 by omega)
        have k1 := Int.emod_lt_of_pos spot (show 0 < wide by omega)
        refine ⟨_, _, _, _, _, row ++ [low + spot % wide], rfl, B6.new hF0, ?_, ?_, ?_, ?_⟩
        · obtain ⟨x, y, z, e, e2⟩ := P6.mono (m := n + 21 + 2 * (i + 1)) (by omega)
          exact ⟨x, y, z, (upd_ne hFp.symm).trans e, e2⟩
        · rw [upd_same, List.map_append]
          rfl
        · rw [List.length_append, hlen]
          rfl
        · intro z hz
          rcases List.mem_append.mp hz with hz | hz
          · exact hr z hz
          · rw [List.mem_singleton.mp hz]
            omega
    · obtain ⟨x7, x8, x9, x10, x11, row, rfl, B2, P2, eF, hlen, hr⟩ := hW
      exact ⟨.ref F, rfl, q H2 F row B2 (P2.mono (by omega)) hF0 eF (by omega) (by omega) hr⟩
def sp__law_some (K : PySem.W.Frag) : Sp := fun vs H Q _ => ∃ (p : Addr) (m : Int) (n : Nat), vs = [.ref p, .int m] ∧ Pl H p n ∧ n ≤ 900000 ∧ 0 ≤ m ∧ m ≤ 40 ∧
  ∀ H' r (l : List Int), But p H H' → Pl H' p (n + 50) → H r = none → H' r = some (.lst (l.map V.int)) → l.Nodup → Pgs l → (l.length : Int) ≤ m → Q (.ref r) H'
theorem ok__law_some (T : Top K mg)
    (G__law_draw : FnOk P w K mg base CX0 1 T.a__law_draw T.d__law_draw ["_law_pool_here", "_law_many"] (sp__law_draw K)) :
    FnOk P w K mg base CX0 2 T.a__law_some T.d__law_some ["_law_pool_here", "_law_most"] (sp__law_some K) := by
  refine T.F__law_some.ok sc__law_some (fun vs H Q E h => ?_) (fun cdv A outer s H vs Q E hr h => ?_)
  · obtain ⟨p, m, n, rfl, _⟩ := h
    rfl
  · obtain ⟨p, m, n, rfl, hP, hn, hm, hm2, q⟩ := h
    have nd := sc__law_some.nd
    have hu := hu_of hr
    have hU := units_of hr
    have hu64 := u64_of hr
    refine ⟨_, (pss_cons (ps_set (i := 2) nd rfl (Or.inr rfl) (pe_listRg rfl (by rfl) T.n_list (prg_1 (by rfl) T.n_range pe_int)))
      (pss_one (ps_ret (pe_lc (own := [("_law_turn", 3)]) (tt := tYes) rfl nd  (pi_range1 (by rfl) T.n_range (pa_cons (pe_call G__law_draw (hr.mono (by decide)) (by rfl) T.g__law_draw T.F__law_draw.kp T.b__law_draw .nil pass0 (pa_cons (pv 0) (pa_cons (pe_op op_add (pv 1) pe_int) pa_nil))) pa_nil)) (blkOk_by (N := N__law_some) (sc := defScope s__law_some) (by decide +kernel)) (fun _ _ _ _ _ => (pg_name (i := 3) nd rfl (Or.inl rfl))) (fun _ _ _ _ _ => pts_nil) (fun _ _ _ _ _ => (pe_bmK (K := K) rfl PySem.F.plainAttrs_list PySem.F.slot_list_pop PySem.F.type_list_pop mt_popAt (pv 2) (pa_cons (pe_call G__law_draw (hr.mono (by decide)) (by rfl) T.g__law_draw T.F__law_draw.kp T.b__law_draw .nil pass0 (pa_cons (pv 0) (pa_cons (pe_callB (call_lenK (K := K) rfl) (by rfl) T.n_len (by decide +kernel) (pa_cons (pv 2) pa_nil)) pa_nil))) pa_nil))))))), ?_⟩
    obtain ⟨op, eop⟩ := hP.at
    refine ⟨_, rfl, RgOk.of_le (by decide) (by decide) (by decide) (by decide), fun L hL => ?_⟩
    have hLp : L ≠ p := fun e => by
      rw [e, eop] at hL
      cases hL
    have e0 : rgV 0 40 = ((List.range 40).map Int.ofNat).map V.int := by
      unfold rgV
      rw [List.map_map]
      exact List.map_congr_left fun i _ => by
        show V.int (0 + (i : Int)) = V.int (Int.ofNat i)
        rw [Int.zero_add]
        rfl
    have P1 := hP.same (same_new (o := .lst (rgV 0 40)) hL)
    refine ⟨.ref p, rfl, _, rfl, _, _, rfl, rfl, p, m + 1, n, rfl, P1, by omega, by omega, by omega, fun H2 N b2 P2 n1 n2 => ⟨N, rfl, by omega, by omega, fun D hD => ?_⟩⟩
    have eL2 : H2 L = some (.lst (((List.range 40).map Int.ofNat).map V.int)) := by
      rw [← e0]
      exact b2 _ _ hLp upd_same
    have hDL : D ≠ L := fun e => by
      rw [e, eL2] at hD
      cases hD
    have hDp : D ≠ p := fun e => by
      obtain ⟨o, eo⟩ := P2.at
      rw [e, eo] at hD
      cases hD
    have B2 : But p H H2 := (But.of_same (same_new hL)).trans b2
    have hD0 : H D = none := B2.free hDp hD
    refine lc_range (lo := 0) (n := N.toNat) (fun i H' => ∃ l left : List Int, But p H H' ∧ Pl H' p (n + 1 + i) ∧ H' D = some (.lst (l.map V.int)) ∧ H' L = some (.lst (left.map V.int)) ∧ l.length = i ∧ left.length = 40 - i ∧ (l ++ left).Nodup ∧ Pgs (l ++ left)) ?_ (fun i H' hi hW => ?_) (fun H' hW => ?_)
    · refine ⟨[], _, B2.new hD0, P2.same (same_new hD), upd_same, (upd_ne hDL.symm).trans eL2, rfl, by rw [List.length_map, List.length_range], ?_, ?_⟩
      · rw [List.nil_append]
        exact (List.pairwise_map).mpr (List.Pairwise.imp (fun h e => h (Int.ofNat.inj e)) List.nodup_range)
      · intro z hz
        obtain ⟨i, hi, rfl⟩ := List.mem_map.mp hz
        have := List.mem_range.mp hi
        show 0 ≤ (i : Int) ∧ (i : Int) ≤ 39
        omega
    · obtain ⟨l, left, B3, P3, eD, eL, hl1, hl2, hnd, hpg⟩ := hW
      have hi40 : i < 40 := by omega
      refine ⟨rfl, .ref L, rfl, .inl ⟨rfl, _, .inl (.inl eL)⟩, .ref p, rfl, .ref L, rfl, L, _, rfl, .inl (.inl (.inl eL)), p, _, _, rfl, P3, by omega, ?_, ?_, fun H4 r b4 P4 r1 r2 => ?_⟩
      · rw [List.length_map, hl2]
        omega
      · rw [List.length_map, hl2]
        omega
      · rw [List.length_map, hl2] at r2
        obtain ⟨k, rfl⟩ := Int.eq_ofNat_of_zero_le r1
        have hk : k < left.length := by
          rw [hl2]
          exact Int.ofNat_lt.mp r2
        have eL4 := b4 _ _ hLp eL
        have eD4 := b4 _ _ hDp eD
        have gk : (left.map V.int)[k]? = some (.int left[k]) := by
          rw [List.getElem?_map, List.getElem?_eq_getElem hk]
          rfl
        have sq : seqIndex? (k : Int) (left.map V.int).length = some k := by
          rw [List.length_map]
          exact seq_nat hk
        refine ⟨L, _, _, k, _, rfl, rfl, eL4, by omega, by omega, sq, gk, _, (upd_ne hDL).trans eD4, ?_, ?_⟩
        · rw [List.length_map, hl1]
          exact Nat.lt_trans hi40 (by decide)
        · have pm : ((l ++ [left[k]]) ++ left.eraseIdx k).Perm (l ++ left) := by
            rw [List.append_assoc]
            exact List.Perm.append_left _ (perm_erase hk)
          have hL0 : H L = none := by
            cases q0 : H L with
            | none => rfl
            | some o => rw [q0] at hL; cases hL
          refine ⟨l ++ [left[k]], left.eraseIdx k, ((B3.trans b4).new hL0).new hD0, ?_, by rw [upd_same, List.map_append]; rfl, ?_, ?_, ?_, (List.Perm.nodup_iff pm).mpr hnd, fun z hz => hpg z (pm.mem_iff.mp hz)⟩
          · obtain ⟨x, y, z, e, e2⟩ := P4.mono (m := n + 1 + (i + 1)) (by omega)
            exact ⟨x, y, z, (upd_ne hDp.symm).trans ((upd_ne hLp.symm).trans e), e2⟩
          · rw [upd_ne hDL.symm, upd_same, mapI_erase]
          · rw [List.length_append, hl1]
            rfl
          · rw [List.length_eraseIdx, if_pos hk, hl2]
            omega
    · obtain ⟨l, left, B3, P3, eD, eL, hl1, hl2, hnd, hpg⟩ := hW
      refine q H' D l B3 (P3.mono (by omega)) hD0 eD (List.nodup_append.mp hnd).1 (fun z hz => hpg z (List.mem_append_left _ hz)) ?_
      omega
def sp_is_int (K : PySem.W.Frag) : Sp := fun vs H Q _ => ∃ x, vs = [x] ∧ Kn H x ∧ Q (.bl (isI x)) H
theorem ok_is_int (T : Top K mg) :
    FnOk P w K mg base CX0 1 T.a_is_int T.d_is_int ["value"] (sp_is_int K) := by
  refine T.F_is_int.ok sc_is_int (fun vs H Q E h => ?_) (fun cdv A outer s H vs Q E hr h => ?_)
  · obtain ⟨x, rfl, _⟩ := h
    rfl
  · obtain ⟨x, rfl, hk, q⟩ := h
    have nd := sc_is_int.nd
    have hu := hu_of hr
    have hU := units_of hr
    have hu64 := u64_of hr
    refine ⟨_, (pss_one (ps_ret (pe_and (pe_callB call_isi (by rfl) T.n_isinstance (by decide +kernel) (pa_cons (pv 0) (pa_cons (pe_bltn (v := .ty "int") (by rfl) T.n_int (by decide +kernel) rfl) pa_nil))) (pe_one (pe_not (pe_callB call_isi (by rfl) T.n_isinstance (by decide +kernel) (pa_cons (pv 0) (pa_cons (pe_bltn (v := .ty "bool") (by rfl) T.n_bool (by decide +kernel) rfl) pa_nil)))))))), ?_⟩
    rw [isI_eq] at q
    refine ⟨x, rfl, x, _, _, _, _, rfl, .ty _, hk.ty, kit_ty (kit_int H hk), _, rfl, ite2 (fun c => ⟨x, rfl, x, _, _, _, _, rfl, .ty _, hk.ty, kit_ty (kit_bool H hk), _, rfl, ?_⟩) (fun c => ?_)⟩
    · rw [c] at q
      exact q
    · rw [eq_false_of_ne_true c] at q
      exact q
def sp_is_between (K : PySem.W.Frag) : Sp := fun vs H Q _ => ∃ x lo hi, vs = [x, .int lo, .int hi] ∧ Kn H x ∧ Q (.bl (inRg lo hi x)) H
theorem ok_is_between (T : Top K mg)
    (G_is_int : FnOk P w K mg base CX0 1 T.a_is_int T.d_is_int ["value"] (sp_is_int K)) :
    FnOk P w K mg base CX0 2 T.a_is_between T.d_is_between ["value", "low", "high"] (sp_is_between K) := by
  refine T.F_is_between.ok sc_is_between (fun vs H Q E h => ?_) (fun cdv A outer s H vs Q E hr h => ?_)
  · obtain ⟨x, lo, hi, rfl, _⟩ := h
    rfl
  · obtain ⟨x, lo, hi, rfl, hk, q⟩ := h
    have nd := sc_is_between.nd
    have hu := hu_of hr
    have hU := units_of hr
    have hu64 := u64_of hr
    refine ⟨_, (pss_one (ps_ret (pe_and (pe_call G_is_int (hr.mono (by decide)) (by rfl) T.g_is_int T.F_is_int.kp T.b_is_int .nil pass0 (pa_cons (pv 0) pa_nil)) (pe_one (pe_chain op_le op_le (pv 1) (pv 0) (pv 2)))))), ?_⟩
    refine ⟨x, rfl, x, rfl, hk, _, rfl, ite2 (fun c => ?_) (fun c => ?_)⟩
    · obtain ⟨i, rfl⟩ := isI_of c
      refine ⟨_, rfl, _, rfl, _, _, rfl, rfl, _, rfl, ite2 (fun d => ⟨_, rfl, _, _, rfl, rfl, ?_⟩) (fun d => ?_)⟩
      · have e : inRg lo hi (.int i) = decide (i ≤ hi) := by
          show (decide (lo ≤ i) && decide (i ≤ hi)) = _
          rw [d, Bool.true_and]
        show Q (.bl (decide (i ≤ hi))) H
        rw [← e]
        exact q
      · have e : inRg lo hi (.int i) = false := by
          show (decide (lo ≤ i) && decide (i ≤ hi)) = _
          rw [eq_false_of_ne_true d, Bool.false_and]
        show Q (.bl false) H
        rw [← e]
        exact q
    · have e : inRg lo hi x = false := by
        cases x <;> first | rfl | exact absurd rfl c
      show Q (.bl false) H
      rw [← e]
      exact q
def sp_are_pages (K : PySem.W.Frag) : Sp := fun vs H Q _ => ∃ x m, vs = [x, .int m] ∧ OkV H x ∧ ∀ H', Same H H' → Q (.bl (itemsB (pgsB m) H x)) H'
theorem ok_are_pages (T : Top K mg)
    (G_is_between : FnOk P w K mg base CX0 2 T.a_is_between T.d_is_between ["value", "low", "high"] (sp_is_between K)) :
    FnOk P w K mg base CX0 3 T.a_are_pages T.d_are_pages ["value", "many"] (sp_are_pages K) := by
  refine T.F_are_pages.ok sc_are_pages (fun vs H Q E h => ?_) (fun cdv A outer s H vs Q E hr h => ?_)
  · obtain ⟨x, m, rfl, _⟩ := h
    rfl
  · obtain ⟨x, m, rfl, hk, q⟩ := h
    have nd := sc_are_pages.nd
    have hu := hu_of hr
    have hU := units_of hr
    have hu64 := u64_of hr
    refine ⟨_, (pss_one (ps_ret (pe_and (pe_callB call_isi (by rfl) T.n_isinstance (by decide +kernel) (pa_cons (pv 0) (pa_cons (pe_bltn (v := .ty "list") (by rfl) T.n_list (by decide +kernel) rfl) pa_nil))) (pe_one (pe_callB (cr_all rfl) (by rfl) T.n_all (by decide +kernel) (pa_cons (pe_lc (own := [("item", 2)]) (tt := tYes) rfl nd  (pi_list (pv 0)) (blkOk_by (N := N_are_pages) (sc := defScope s_are_pages) (by decide +kernel)) (fun _ _ _ _ _ => (pg_name (i := 2) nd rfl (Or.inl rfl))) (fun _ _ _ _ _ => pts_nil) (fun _ _ _ _ _ => (pe_call G_is_between (hr.mono (by decide)) (by rfl) T.g_is_between T.F_is_between.kp T.b_is_between .nil pass0 (pa_cons (pv 2) (pa_cons pe_int (pa_cons (pe_op op_sub (pv 1) pe_int) pa_nil)))))) pa_nil)))))), ?_⟩
    refine ⟨x, rfl, x, _, _, _, _, rfl, .ty _, hk.1.ty, kit_ty (kit_list H hk.1), _, rfl, ite2 (fun c => ?_) (fun c => ?_)⟩
    · obtain ⟨a, xs, rfl, ea⟩ := isLB_of c
      obtain ⟨hl, hy⟩ := hk.2 a xs rfl ea
      rw [itemsB_lst ea] at q
      refine ⟨.ref a, rfl, a, rfl, ⟨xs, .inl (.inl ea)⟩, fun D hD => lc_list (xs := xs) (fun i H' => Same H H' ∧ H' D = some (.lst ((xs.take i).map fun y => V.bl (inRg 0 (m - 1) y)))) ⟨same_new hD, upd_same⟩ (fun i H' _ hp => .inl (.inl (hp.1 _ _ ea))) (fun i y H' hi hp => ?_) (fun H' hp => ?_)⟩
      · refine ⟨rfl, y, rfl, _, rfl, _, _, rfl, rfl, ?_⟩
        obtain ⟨hs, eD⟩ := hp
        refine ⟨y, 0, m - 1, rfl, (hy y (List.mem_of_getElem? hi)).same hs, _, eD, ?_, ?_, ?_⟩
        · rw [List.length_map, List.length_take]
          exact Nat.lt_of_le_of_lt (Nat.min_le_right _ _) (Nat.lt_of_le_of_lt hl (by decide))
        · intro b o e
          have nb : b ≠ D := ne_of_none e hD
          rw [upd_ne nb]
          exact hs b o e
        · rw [upd_same, List.take_add_one, hi, List.map_append]
          rfl
      · obtain ⟨hs, eD⟩ := hp
        rw [List.take_length] at eD
        have e2 : xs.map (fun y => V.bl (inRg 0 (m - 1) y)) = (xs.map (inRg 0 (m - 1))).map V.bl := by
          rw [List.map_map]
          rfl
        rw [e2] at eD
        refine ⟨D, _, rfl, .inl (.inl eD), ?_⟩
        have e3 : (xs.map (inRg 0 (m - 1))).all id = pgsB m xs := by
          unfold pgsB
          rw [List.all_map]
          rfl
        rw [e3]
        exact q H' hs
    · rw [itemsB_no c] at q
      exact q H (Same.refl H)
def sp_is_visits (K : PySem.W.Frag) : Sp := fun vs H Q _ => ∃ x, vs = [x] ∧ OkV H x ∧ ∀ H', Same H H' → Q (.bl (itemsB visB H x)) H'
theorem ok_is_visits (T : Top K mg)
    (G_are_pages : FnOk P w K mg base CX0 3 T.a_are_pages T.d_are_pages ["value", "many"] (sp_are_pages K)) :
    FnOk P w K mg base CX0 4 T.a_is_visits T.d_is_visits ["value"] (sp_is_visits K) := by
  refine T.F_is_visits.ok sc_is_visits (fun vs H Q E h => ?_) (fun cdv A outer s H vs Q E hr h => ?_)
  · obtain ⟨x, rfl, _⟩ := h
    rfl
  · obtain ⟨x, rfl, hk, q⟩ := h
    have nd := sc_is_visits.nd
    have hu := hu_of hr
    have hU := units_of hr
    have hu64 := u64_of hr
    refine ⟨_, (pss_one (ps_ret (pe_and (pe_call G_are_pages (hr.mono (by decide)) (by rfl) T.g_are_pages T.F_are_pages.kp T.b_are_pages .nil pass0 (pa_cons (pv 0) (pa_cons (pe_glob (v := .int (40)) (by rfl) T.g_PAGES ⟨_, rfl⟩) pa_nil))) (pe_one (pe_cmpR op_le (pe_callB call_len_seq (by rfl) T.n_len (by decide +kernel) (pa_cons (pv 0) pa_nil)) (pe_glob (v := .int (300)) (by rfl) T.g_MOST_VISITS ⟨_, rfl⟩) (nomark _)))))), ?_⟩
    refine ⟨x, rfl, x, 40, rfl, hk, fun H1 s1 => ⟨_, rfl, ite2 (fun c => ?_) (fun c => ?_)⟩⟩
    · by_cases hL : isLB H x = true
      · obtain ⟨a, xs, rfl, ea⟩ := isLB_of hL
        rw [itemsB_lst ea] at c q
        refine ⟨.ref a, rfl, a, xs, rfl, .inl (.inl (.inl (s1 _ _ ea))), _, _, rfl, rfl, ?_⟩
        have e : decide (((xs.length : Nat) : Int) ≤ 300) = visB xs := by
          unfold visB
          rw [c, Bool.true_and]
          exact decide_eq_decide.mpr (by omega)
        show Q (.bl (decide (((xs.length : Nat) : Int) ≤ 300))) H1
        rw [e]
        exact q H1 s1
      · rw [itemsB_no hL] at c
        cases c
    · have e : itemsB visB H x = false := by
        by_cases hL : isLB H x = true
        · obtain ⟨a, xs, rfl, ea⟩ := isLB_of hL
          rw [itemsB_lst ea] at c ⊢
          unfold visB
          rw [eq_false_of_ne_true c, Bool.false_and]
        · exact itemsB_no hL
      rw [e] at q
      exact q H1 s1
def sp_check_visits (K : PySem.W.Frag) : Sp := fun vs H Q _ => ∃ (a : Addr) (l : List Int), vs = [.ref a] ∧ H a = some (.lst (l.map V.int)) ∧ l.length ≤ 300 ∧ Pgs l ∧ ∀ H', Same H H' → Q .non H'
theorem ok_check_visits (T : Top K mg)
    (G_is_visits : FnOk P w K mg base CX0 4 T.a_is_visits T.d_is_visits ["value"] (sp_is_visits K)) :
    FnOk P w K mg base CX0 5 T.a_check_visits T.d_check_visits ["visits"] (sp_check_visits K) := by
  refine T.F_check_visits.ok sc_check_visits (fun vs H Q E h => ?_) (fun cdv A outer s H vs Q E hr h => ?_)
  · obtain ⟨a, l, rfl, _⟩ := h
    rfl
  · obtain ⟨a, l, rfl, ea, hl, hp, q⟩ := h
    have nd := sc_check_visits.nd
    have hu := hu_of hr
    have hU := units_of hr
    have hu64 := u64_of hr
    refine ⟨_, (pss_one (ps_if (pt_not (pt_val (pe_call G_is_visits (hr.mono (by decide)) (by rfl) T.g_is_visits T.F_is_visits.kp T.b_is_visits .nil pass0 (pa_cons (pv 0) pa_nil)))) (pss_one ps_never) pss_nil)), ?_⟩
    refine ⟨.ref a, rfl, .ref a, rfl, okv_nums ea (by omega), fun H1 s1 => ⟨_, rfl, ?_⟩⟩
    show if (!itemsB visB H (.ref a)) = true then _ else _
    rw [vis_ok ea hl hp]
    exact q H1 s1
def sp_are_different_pages (K : PySem.W.Frag) : Sp := fun vs H Q _ => ∃ x m, vs = [x, .int m] ∧ OkV H x ∧ ∀ H', Same H H' → Q (.bl (itemsB (difB m) H x)) H'
theorem ok_are_different_pages (T : Top K mg)
    (G_are_pages : FnOk P w K mg base CX0 3 T.a_are_pages T.d_are_pages ["value", "many"] (sp_are_pages K)) :
    FnOk P w K mg base CX0 4 T.a_are_different_pages T.d_are_different_pages ["value", "many"] (sp_are_different_pages K) := by
  refine T.F_are_different_pages.ok sc_are_different_pages (fun vs H Q E h => ?_) (fun cdv A outer s H vs Q E hr h => ?_)
  · obtain ⟨x, m, rfl, _⟩ := h
    rfl
  · obtain ⟨x, m, rfl, hk, q⟩ := h
    have nd := sc_are_different_pages.nd
    have hu := hu_of hr
    have hU := units_of hr
    have hu64 := u64_of hr
    refine ⟨_, (pss_one (ps_ret (pe_and (pe_call G_are_pages (hr.mono (by decide)) (by rfl) T.g_are_pages T.F_are_pages.kp T.b_are_pages .nil pass0 (pa_cons (pv 0) (pa_cons (pv 1) pa_nil))) (pe_one (pe_cmpR op_eq (pe_callB call_lenSet (by rfl) T.n_len (by decide +kernel) (pa_cons (pe_callTy (cr_setI rfl) (by rfl) T.n_set (by decide +kernel) (pa_cons (pv 0) pa_nil)) pa_nil)) (pe_callB call_len_seq (by rfl) T.n_len (by decide +kernel) (pa_cons (pv 0) pa_nil)) (nomark _)))))), ?_⟩
    refine ⟨x, rfl, _, rfl, x, m, rfl, hk, fun H1 s1 => ⟨_, rfl, ite2 (fun c => ?_) (fun c => ?_)⟩⟩
    · by_cases hL : isLB H x = true
      · obtain ⟨a, xs, rfl, ea⟩ := isLB_of hL
        rw [itemsB_lst ea] at c q
        have ex := nums_of (show xs.all (inRg 0 (m - 1)) = true from c)
        have e1 : H1 a = some (.lst ((nums xs).map V.int)) := by
          rw [ex]
          exact s1 _ _ ea
        have hl : (nums xs).length ≤ 4000 := by
          unfold nums
          rw [List.length_map]
          exact (hk.2 a xs rfl ea).1
        refine ⟨.ref a, rfl, a, nums xs, rfl, .inl (.inl e1), hl, fun p S hp _ => ?_⟩
        refine ⟨p, S, _, rfl, upd_same, .ref a, rfl, a, _, rfl, .inl (.inl (.inl ((upd_ne (ne_of_none e1 hp)).trans e1))), rfl, ?_⟩
        show Q (.bl (decide (V.int ((met (nums xs) : Nat) : Int) = V.int ((((nums xs).map V.int).length : Nat) : Int)))) _
        rw [bl_int]
        have e2 : decide (met (nums xs) = ((nums xs).map V.int).length) = difB m xs := by
          unfold difB
          rw [c, Bool.true_and, List.length_map]
          exact decide_eq_decide.mpr (met_iff _)
        rw [e2]
        exact q _ (s1.trans (same_new hp))
      · rw [itemsB_no hL] at c
        cases c
    · have e : itemsB (difB m) H x = false := by
        by_cases hL : isLB H x = true
        · obtain ⟨a, xs, rfl, ea⟩ := isLB_of hL
          rw [itemsB_lst ea] at c ⊢
          unfold difB
          rw [eq_false_of_ne_true c, Bool.false_and]
        · exact itemsB_no hL
      rw [e] at q
      exact q H1 s1
def sp_is_trail (K : PySem.W.Frag) : Sp := fun vs H Q _ => ∃ x, vs = [x] ∧ OkV H x ∧ ∀ H', Same H H' → Q (.bl (itemsB (difB 40) H x)) H'
theorem ok_is_trail (T : Top K mg)
    (G_are_different_pages : FnOk P w K mg base CX0 4 T.a_are_different_pages T.d_are_different_pages ["value", "many"] (sp_are_different_pages K)) :
    FnOk P w K mg base CX0 5 T.a_is_trail T.d_is_trail ["value"] (sp_is_trail K) := by
  refine T.F_is_trail.ok sc_is_trail (fun vs H Q E h => ?_) (fun cdv A outer s H vs Q E hr h => ?_)
  · obtain ⟨x, rfl, _⟩ := h
    rfl
  · obtain ⟨x, rfl, hk, q⟩ := h
    have nd := sc_is_trail.nd
    have hu := hu_of hr
    have hU := units_of hr
    have hu64 := u64_of hr
    refine ⟨_, (pss_one (ps_ret (pe_call G_are_different_pages (hr.mono (by decide)) (by rfl) T.g_are_different_pages T.F_are_different_pages.kp T.b_are_different_pages .nil pass0 (pa_cons (pv 0) (pa_cons (pe_glob (v := .int (40)) (by rfl) T.g_PAGES ⟨_, rfl⟩) pa_nil))))), ?_⟩
    exact ⟨x, rfl, x, 40, rfl, hk, fun H1 s1 => q H1 s1⟩
def sp_check_trail (K : PySem.W.Frag) : Sp := fun vs H Q _ => ∃ (a : Addr) (l : List Int), vs = [.ref a] ∧ H a = some (.lst (l.map V.int)) ∧ l.length ≤ 4000 ∧ l.Nodup ∧ Pgs l ∧ ∀ H', Same H H' → Q .non H'
theorem ok_check_trail (T : Top K mg)
    (G_is_trail : FnOk P w K mg base CX0 5 T.a_is_trail T.d_is_trail ["value"] (sp_is_trail K)) :
    FnOk P w K mg base CX0 6 T.a_check_trail T.d_check_trail ["trail"] (sp_check_trail K) := by
  refine T.F_check_trail.ok sc_check_trail (fun vs H Q E h => ?_) (fun cdv A outer s H vs Q E hr h => ?_)
  · obtain ⟨a, l, rfl, _⟩ := h
    rfl
  · obtain ⟨a, l, rfl, ea, hl, hn, hp, q⟩ := h
    have nd := sc_check_trail.nd
    have hu := hu_of hr
    have hU := units_of hr
    have hu64 := u64_of hr
    refine ⟨_, (pss_one (ps_if (pt_not (pt_val (pe_call G_is_trail (hr.mono (by decide)) (by rfl) T.g_is_trail T.F_is_trail.kp T.b_is_trail .nil pass0 (pa_cons (pv 0) pa_nil)))) (pss_one ps_never) pss_nil)), ?_⟩
    refine ⟨.ref a, rfl, .ref a, rfl, okv_nums ea hl, fun H1 s1 => ⟨_, rfl, ?_⟩⟩
    show if (!itemsB (difB 40) H (.ref a)) = true then _ else _
    rw [trl_ok ea hn hp]
    exact q H1 s1
def sp_visited (K : PySem.W.Frag) : Sp := fun vs H Q _ => ∃ (a : Addr) (t : List Int) (p : Int), vs = [.ref a, .int p] ∧ H a = some (.lst (t.map V.int)) ∧ t.length ≤ 10000 ∧
  ∀ l o, H l = none → o = HO.lst ((vis t p).map V.int) → Q (.ref l) (upd H l o)
theorem ok_visited (T : Top K mg) :
    FnOk P w K mg base CX0 1 T.a_visited T.d_visited ["trail", "page"] (sp_visited K) := by
  refine T.F_visited.ok sc_visited (fun vs H Q E h => ?_) (fun cdv A outer s H vs Q E hr h => ?_)
  · obtain ⟨a, t, p, rfl, _⟩ := h
    rfl
  · obtain ⟨a, t, p, rfl, ea, ht, q⟩ := h
    have nd := sc_visited.nd
    have hu := hu_of hr
    have hU := units_of hr
    have hu64 := u64_of hr
    refine ⟨_, (pss_cons (ps_if (pt_cmpR op_in_seq (pv 1) (pv 0) rfl) (pss_one (ps_ret (pe_slice sl_list (pv 0) po_none (po_some (pe_op op_add (pe_bm PySem.F.plainAttrs_list PySem.F.slot_list_index PySem.F.type_list_index mt_index (pv 0) (pa_cons (pv 1) pa_nil)) pe_int))))) pss_nil)
      (pss_one (ps_ret (pe_lst (StX.pa_star (pv 0) (pa_cons (pv 1) pa_nil)))))), ?_⟩
    refine ⟨_, rfl, .ref a, rfl, a, _, rfl, .inl (.inl (.inl ea)), rfl, flat_nums t, _, rfl, ?_⟩
    show if inV (.int p) (t.map V.int) = true then _ else _
    rw [inV_nums]
    refine ite2 (fun c => ?_) (fun c => ?_)
    · have hm := of_decide_eq_true c
      obtain ⟨i1, i2, i3⟩ := idx_nums hm
      refine ⟨.ref a, rfl, .ref a, rfl, .inl ⟨rfl, _, .inl (.inl ea)⟩, _, rfl, a, _, _, t.idxOf p, _, rfl, rfl, .inl (.inl ea), rfl, flat_nums t, i1, beq_self_eq_true p, i3, _, _, rfl, rfl, _, rfl, a, _, rfl, .inl (.inl ea), fun l hl => ?_⟩
      refine q l _ hl ?_
      show HO.lst (cutV (t.map V.int) none (some ((t.idxOf p : Nat) + 1 : Int))) = _
      have e1 : ((t.idxOf p : Nat) : Int) + 1 = ((t.idxOf p + 1 : Nat) : Int) := rfl
      rw [e1, cut_to, ← List.map_take]
      unfold vis
      rw [if_pos hm]
    · have hm : ¬ p ∈ t := fun z => c (decide_eq_true z)
      refine ⟨.ref a, rfl, a, _, rfl, .inr (.inl (.inl ea)), _, rfl, ?_, fun l hl => ?_⟩
      · rw [List.length_append, List.length_map]
        show t.length + 1 ≤ sizeLine
        exact Nat.le_trans (Nat.succ_le_succ ht) (by decide)
      · refine q l _ hl ?_
        unfold vis
        rw [if_neg hm, List.map_append]
        rfl
def sp_trail_after (K : PySem.W.Frag) : Sp := fun vs H Q _ => ∃ (a : Addr) (l t : List Int) (st : V), vs = [.ref a, st] ∧ H a = some (.lst (l.map V.int)) ∧ l.length ≤ 300 ∧ Pgs l ∧
  ((st = .non ∧ t = []) ∨ ∃ b, st = .ref b ∧ H b = some (.lst (t.map V.int)) ∧ t.Nodup ∧ Pgs t ∧ t.length ≤ 4000) ∧
  ∀ H' r, Same H H' → H r = none → H' r = some (.lst ((play t l).map V.int)) → Q (.ref r) H'
theorem ok_trail_after (T : Top K mg)
    (G_check_visits : FnOk P w K mg base CX0 5 T.a_check_visits T.d_check_visits ["visits"] (sp_check_visits K))
    (G_check_trail : FnOk P w K mg base CX0 6 T.a_check_trail T.d_check_trail ["trail"] (sp_check_trail K))
    (G_visited : FnOk P w K mg base CX0 1 T.a_visited T.d_visited ["trail", "page"] (sp_visited K)) :
    FnOk P w K mg base CX0 7 T.a_trail_after T.d_trail_after ["visits", "start"] (sp_trail_after K) := by
  refine FunD_ok0 T.F_trail_after sc_trail_after (fun vs H Q E h => ?_) (fun cdv A outer s H vs Q E hr h => ?_)
  · obtain ⟨a, l, t, st, rfl, _⟩ := h
    rfl
  · obtain ⟨a, l, t, st, rfl, ea, hl, hp, hst, q⟩ := h
    have nd := sc_trail_after.nd
    have hu := hu_of hr
    have hU := units_of hr
    have hu64 := u64_of hr
    refine ⟨_, (pss_cons (ps_expr (pe_call G_check_visits (hr.mono (by decide)) (by rfl) T.g_check_visits T.F_check_visits.kp T.b_check_visits .nil pass0 (pa_cons (pv 0) pa_nil)))
      (pss_cons (ps_set (i := 2) nd rfl (Or.inl rfl) (pe_lst pa_nil))
      (C8.pss_cut (ps_if (pt_cmp (pc_notN (pv 1))) (pss_cons (ps_expr (pe_call G_check_trail (hr.mono (by decide)) (by rfl) T.g_check_trail T.F_check_trail.kp T.b_check_trail .nil pass0 (pa_cons (pv 1) pa_nil)))
      (pss_one (ps_set (i := 2) nd rfl (Or.inl rfl) (pe_callTy call_list_of (by rfl) T.n_list (by decide +kernel) (pa_cons (pv 1) pa_nil))))) pss_nil)
      (pss_cons (ps_for PassesOwn.never rfl (pi_list (pv 0)) (pg_name (i := 3) nd rfl (Or.inl rfl)) (pss_one (ps_set (i := 2) nd rfl (Or.inl rfl) (pe_call G_visited (hr.mono (by decide)) (by rfl) T.g_visited T.F_visited.kp T.b_visited .nil pass0 (pa_cons (pv 2) (pa_cons (pv 3) pa_nil))))))
      (pss_one (ps_ret (pv 2))))))), ?_⟩
    refine ⟨.ref a, rfl, a, l, rfl, ea, hl, hp, fun H1 s1 => ⟨Nat.zero_le _, fun r0 hr0 => ?_⟩⟩
    have ht4 : t.length ≤ 4000 := by
      rcases hst with ⟨_, rfl⟩ | ⟨b, _, _, _, _, h4⟩
      · exact Nat.zero_le _
      · exact h4
    refine ⟨fun σ H' => ∃ r, σ = [some (.ref a), some st, some (.ref r), none] ∧ Same H H' ∧ H r = none ∧ H' r = some (.lst (t.map V.int)), ?_, ?_⟩
    · rcases hst with ⟨rfl, rfl⟩ | ⟨b, rfl, eb, hn, hpt, h4⟩
      · refine ⟨_, rfl, _, rfl, ?_⟩
        exact ⟨r0, rfl, s1.trans (same_new hr0), s1.free hr0, upd_same⟩
      · have s2 : Same H (upd H1 r0 (.lst [])) := s1.trans (same_new hr0)
        refine ⟨_, rfl, _, rfl, ?_⟩
        refine ⟨.ref b, rfl, b, t, rfl, s2 _ _ eb, h4, hn, hpt, fun H3 s3 => ?_⟩
        have s4 := s2.trans s3
        refine ⟨_, rfl, b, _, rfl, .inl (.inl (.inl (s4 _ _ eb))), fun r hr => ?_⟩
        exact ⟨r, rfl, s4.trans (same_new hr), s4.free hr, upd_same⟩
    rintro σ H' ⟨r, rfl, s2, hr, er⟩
    refine ⟨.ref a, rfl, a, rfl, ⟨_, .inl (.inl (s2 _ _ ea))⟩, for_list (xs := l.map V.int) (fun i σ H2 => ∃ r y, σ = [some (.ref a), some st, some (.ref r), y] ∧ Same H H2 ∧ H r = none ∧ H2 r = some (.lst ((play t (l.take i)).map V.int))) ⟨r, none, rfl, s2, hr, er⟩ (fun i σ H2 _ hW => ?_) (fun i x σ H2 hi hW => ?_) (fun σ H2 hW => ?_)⟩
    · obtain ⟨_, _, _, s3, _, _⟩ := hW
      exact .inl (.inl (s3 _ _ ea))
    · obtain ⟨r, y, rfl, s3, hr, er⟩ := hW
      obtain ⟨p, hp', rfl⟩ : ∃ p, l[i]? = some p ∧ x = .int p := by
        rw [List.getElem?_map] at hi
        cases e : l[i]? with
        | none => rw [e] at hi; cases hi
        | some p => rw [e] at hi; cases hi; exact ⟨p, rfl, rfl⟩
      refine ⟨.ref r, rfl, .int p, rfl, r, _, p, rfl, er, ?_, fun u o hu eo => ?_⟩
      · have := play_len (l.take i) t
        rw [List.length_take] at this
        omega
      · refine ⟨u, _, rfl, s3.trans (same_new hu), s3.free hu, ?_⟩
        rw [upd_same, eo, play_step t l hp']
    · obtain ⟨r, y, rfl, s3, hr, er⟩ := hW
      rw [List.length_map, List.take_length] at er
      exact ⟨_, rfl, q H2 r s3 hr er⟩
def sp__law_after (K : PySem.W.Frag) : Sp := fun vs H Q _ => ∃ (a : Addr) (t : List Int) (p : Int), vs = [.ref a, .int p] ∧ H a = some (.lst (t.map V.int)) ∧ t.length ≤ 10000 ∧
  ∀ H' l, Same H H' → H l = none → H' l = some (.lst ((vis t p).map V.int)) → Q (.ref l) H'
theorem ok__law_after (T : Top K mg) :
    FnOk P w K mg base CX0 1 T.a__law_after T.d__law_after ["_law_row", "_law_spot"] (sp__law_after K) := by
  refine T.F__law_after.ok sc__law_after (fun vs H Q E h => ?_) (fun cdv A outer s H vs Q E hr h => ?_)
  · obtain ⟨a, t, p, rfl, _⟩ := h
    rfl
  · obtain ⟨a, t, p, rfl, ea, ht, q⟩ := h
    have nd := sc__law_after.nd
    have hu := hu_of hr
    have hU := units_of hr
    have hu64 := u64_of hr
    refine ⟨_, (pss_one (ps_ret (pe_ifExp (pt_cmpR op_in_seq (pv 1) (pv 0) rfl) (pe_slice sl_list (pv 0) po_none (po_some (pe_op op_add (pe_bm PySem.F.plainAttrs_list PySem.F.slot_list_index PySem.F.type_list_index mt_index (pv 0) (pa_cons (pv 1) pa_nil)) pe_int))) (pe_op op_cat (pv 0) (pe_lst (pa_cons (pv 1) pa_nil)))))), ?_⟩
    refine ⟨_, rfl, .ref a, rfl, a, _, rfl, .inl (.inl (.inl ea)), rfl, flat_nums t, _, rfl, ?_⟩
    show if inV (.int p) (t.map V.int) = true then _ else _
    rw [inV_nums]
    refine ite2 (fun c => ?_) (fun c => ?_)
    · have hm := of_decide_eq_true c
      obtain ⟨i1, i2, i3⟩ := idx_nums hm
      refine ⟨.ref a, rfl, .ref a, rfl, .inl ⟨rfl, _, .inl (.inl ea)⟩, _, rfl, a, _, _, t.idxOf p, _, rfl, rfl, .inl (.inl ea), rfl, flat_nums t, i1, beq_self_eq_true p, i3, _, _, rfl, rfl, _, rfl, a, _, rfl, .inl (.inl ea), fun l hl => ?_⟩
      refine q _ l (same_new hl) hl ?_
      have e1 : ((t.idxOf p : Nat) : Int) + 1 = ((t.idxOf p + 1 : Nat) : Int) := rfl
      rw [upd_same, e1, cut_to, ← List.map_take]
      unfold vis
      rw [if_pos hm]
    · have hm : ¬ p ∈ t := fun z => c (decide_eq_true z)
      refine ⟨.ref a, rfl, _, rfl, (by show 1 ≤ sizeLine; decide), fun b hb => ⟨a, b, _, _, rfl, rfl, (upd_ne (ne_of_none ea hb)).trans ea, upd_same, ?_, fun l hl => ?_⟩⟩
      · rw [List.length_map]
        show t.length + 1 ≤ sizeLine
        exact Nat.le_trans (Nat.succ_le_succ ht) (by decide)
      · have nl : l ≠ b := fun e => by
          rw [e, upd_same] at hl
          cases hl
        rw [upd_ne nl] at hl
        refine q _ l ((same_new hb).trans (same_new (by rw [upd_ne nl]; exact hl))) hl ?_
        rw [upd_same]
        unfold vis
        rw [if_neg hm, List.map_append]
        rfl
def sp__law_trails (K : PySem.W.Frag) : Sp := fun vs H Q _ => ∃ (r a : Addr) (t l : List Int), vs = [.ref r, .ref a] ∧ H r = some (.lst (t.map V.int)) ∧ H a = some (.lst (l.map V.int)) ∧ t.length ≤ 4000 ∧ l.length ≤ 1000 ∧
  ∀ H' F as, Same H H' → H F = none → H' F = some (.lst (as.map V.ref)) → Rows H' as (scan t l) → (∀ x ∈ as, H x = none ∧ x ≠ F) → Q (.ref F) H'
theorem ok__law_trails (T : Top K mg)
    (G__law_after : FnOk P w K mg base CX0 1 T.a__law_after T.d__law_after ["_law_row", "_law_spot"] (sp__law_after K)) :
    FnOk P w K mg base CX0 2 T.a__law_trails T.d__law_trails ["_law_row", "_law_line_here"] (sp__law_trails K) := by
  refine T.F__law_trails.ok sc__law_trails (fun vs H Q E h => ?_) (fun cdv A outer s H vs Q E hr h => ?_)
  · obtain ⟨r, a, t, l, rfl, _⟩ := h
    rfl
  · obtain ⟨r, a, t, l, rfl, er, ea, ht, hl, q⟩ := h
    have nd := sc__law_trails.nd
    have hu := hu_of hr
    have hU := units_of hr
    have hu64 := u64_of hr
    refine ⟨_, (pss_cons (ps_set (i := 2) nd rfl (Or.inl rfl) (pe_lst pa_nil))
      (pss_cons (ps_for PassesOwn.never rfl (pi_list (pv 1)) (pg_name (i := 3) nd rfl (Or.inl rfl)) (pss_cons (ps_set (i := 0) nd rfl (Or.inl rfl) (pe_call G__law_after (hr.mono (by decide)) (by rfl) T.g__law_after T.F__law_after.kp T.b__law_after .nil pass0 (pa_cons (pv 0) (pa_cons (pv 3) pa_nil))))
      (pss_one (ps_expr (pe_bm PySem.F.plainAttrs_list PySem.F.slot_list_append PySem.F.type_list_append mt_append (pv 2) (pa_cons (pv 0) pa_nil))))))
      (pss_one (ps_ret (pv 2))))), ?_⟩
    refine ⟨Nat.zero_le _, fun F hF => ?_⟩
    refine ⟨.ref a, rfl, a, rfl, ⟨_, .inl (.inl ((same_new hF) _ _ ea))⟩, for_list (xs := l.map V.int) (fun i σ H2 => ∃ (r' : Addr) (as : List Addr) (y : Option V), σ = [some (.ref r'), some (.ref a), some (.ref F), y] ∧ Same H H2 ∧ r' ≠ F ∧ H2 r' = some (.lst ((play t (l.take i)).map V.int)) ∧
        H2 F = some (.lst (as.map V.ref)) ∧ Rows H2 as ((List.range i).map fun j => play t (l.take (j + 1))) ∧ ∀ x ∈ as, H x = none ∧ x ≠ F) ?_ (fun i σ H2 _ hW => ?_) (fun i x σ H2 hi hW => ?_) (fun σ H2 hW => ?_)⟩
    · exact ⟨r, [], none, rfl, same_new hF, ne_of_none er hF, (same_new hF) _ _ er, upd_same, .nil, fun x hx => nomatch hx⟩
    · obtain ⟨_, _, _, _, s3, _⟩ := hW
      exact .inl (.inl (s3 _ _ ea))
    · obtain ⟨r', as, y, rfl, s3, hrF, er', eF, hR, hx⟩ := hW
      obtain ⟨p, hp', rfl⟩ : ∃ p, l[i]? = some p ∧ x = .int p := by
        rw [List.getElem?_map] at hi
        cases e : l[i]? with
        | none => rw [e] at hi; cases hi
        | some p => rw [e] at hi; cases hi; exact ⟨p, rfl, rfl⟩
      have hil : i < l.length := (List.getElem?_eq_some_iff.mp hp').1
      have hlen := play_len (l.take i) t
      rw [List.length_take] at hlen
      refine ⟨.ref r', rfl, .int p, rfl, r', _, p, rfl, er', by omega, fun H3 u s4 hu eu => ?_⟩
      have huF : u ≠ F := fun e => by
        rw [e, eF] at hu
        cases hu
      have eF3 := s4 _ _ eF
      have lenas : as.length = i := by
        rw [hR.length, List.length_map, List.length_range]
      refine ⟨.ref F, rfl, .inl ⟨rfl, _, .inl (.inl eF3)⟩, .ref u, rfl, F, _, _, rfl, rfl, eF3, ?_, ?_⟩
      · rw [List.length_map, lenas]
        exact Nat.lt_of_lt_of_le hil (Nat.le_trans hl (by decide))
      · refine ⟨u, as ++ [u], _, rfl, fun b o e => ?_, huF, (upd_ne huF).trans (by rw [eu, play_step t l hp']), by rw [upd_same, List.map_append]; rfl, ?_, fun x hm => ?_⟩
        · rw [upd_ne (ne_of_none e hF)]
          exact s4 _ _ (s3 _ _ e)
        · rw [List.range_succ, List.map_append]
          refine Rows.snoc ((upd_ne huF).trans (by
            rw [eu]
            show _ = some (HO.lst ((play t (l.take (i + 1))).map V.int))
            rw [play_step t l hp'])) ?_
          exact (hR.same s4).kept fun b hb => upd_ne (hx b hb).2
        · rcases List.mem_append.mp hm with hm | hm
          · exact hx x hm
          · rw [List.mem_singleton.mp hm]
            exact ⟨s3.free hu, huF⟩
    · obtain ⟨r', as, y, rfl, s3, hrF, er', eF, hR, hx⟩ := hW
      rw [List.length_map] at hR
      exact ⟨.ref F, rfl, q H2 F as s3 hF eF hR hx⟩
def sp__law_right (K : PySem.W.Frag) : Sp := fun vs H Q _ => ∃ (a r : Addr) (l t : List Int), vs = [.ref a, .ref r] ∧ H a = some (.lst (l.map V.int)) ∧ H r = some (.lst (t.map V.int)) ∧ l.length ≤ 300 ∧ Pgs l ∧ t.length ≤ 40 ∧ t.Nodup ∧ Pgs t ∧
  ∀ H', Same H H' → Q (.bl true) H'
theorem ok__law_right (T : Top K mg)
    (G_trail_after : FnOk P w K mg base CX0 7 T.a_trail_after T.d_trail_after ["visits", "start"] (sp_trail_after K))
    (G__law_trails : FnOk P w K mg base CX0 2 T.a__law_trails T.d__law_trails ["_law_row", "_law_line_here"] (sp__law_trails K)) :
    FnG P w K mg base CX0 8 T.a__law_right T.d__law_right ["_law_line_here", "_law_row"] (sp__law_right K) := by
  refine Fun_okG T.F__law_right sc__law_right (fun vs H Q E h => ?_) (fun cdv A outer s H vs Q E hG hr h => ?_)
  · obtain ⟨a, r, l, t, rfl, _⟩ := h
    rfl
  · obtain ⟨a, r, l, t, rfl, ea, er, hl, hp, ht, hn, hpt, q⟩ := h
    have nd := sc__law_right.nd
    have hu := hu_of hr
    have hU := units_of hr
    have hu64 := u64_of hr
    refine ⟨_, (C8.pss_cut (ps_set (i := 2) nd rfl (Or.inl rfl) (pe_callB (call_show hG hU) (by rfl) T.n_repr (by decide +kernel) (pa_cons (pe_lst (pa_cons (pv 0) (pa_cons (pv 1) pa_nil))) pa_nil)))
      (C8.pss_cut (ps_par (i := 3) (j := 4) rfl nd rfl rfl (by decide) rfl rfl (pa_cons (pe_ix ix_list (pe_op op_cat (pe_lst (pa_cons (pe_lst pa_nil) pa_nil)) (pe_call G__law_trails (hr.mono (by decide)) (by rfl) T.g__law_trails T.F__law_trails.kp T.b__law_trails .nil pass0 (pa_cons (pe_lst pa_nil) (pa_cons (pv 0) pa_nil)))) (pe_un un_neg pe_int) (fun _ _ => rfl)) (pa_cons (pe_ix ix_list (pe_op op_cat (pe_lst (pa_cons (pv 1) pa_nil)) (pe_call G__law_trails (hr.mono (by decide)) (by rfl) T.g__law_trails T.F__law_trails.kp T.b__law_trails .nil pass0 (pa_cons (pv 1) (pa_cons (pv 0) pa_nil)))) (pe_un un_neg pe_int) (fun _ _ => rfl)) pa_nil)) (by rfl))
      (C8.pss_cut (ps_set (i := 5) nd rfl (Or.inl rfl) (pe_lst (pa_cons (pe_call G_trail_after (hr.mono (by decide)) (by rfl) T.g_trail_after T.F_trail_after.kp T.b_trail_after T.dv_trail_after pass0 (pa_cons (pv 0) pa_nil)) (pa_cons (pe_callN G_trail_after (hr.mono (by decide)) (by rfl) T.g_trail_after T.F_trail_after.kp T.kn_trail_after pass0 (pa_cons (pv 0) pa_nil) (pk_cons pe_non pk_nil)) (pa_cons (pe_callK0 G_trail_after (hr.mono (by decide)) (by rfl) T.g_trail_after T.F_trail_after.kp T.kb_trail_after_visits_start pass0 (pk_cons (pv 0) (pk_cons (pe_lst pa_nil) pk_nil))) pa_nil)))))
      (C8.pss_cut (ps_if (pt_cmpR op_ne (pe_callB (call_show hG hU) (by rfl) T.n_repr (by decide +kernel) (pa_cons (pv 5) pa_nil)) (pe_callB (call_show hG hU) (by rfl) T.n_repr (by decide +kernel) (pa_cons (pe_op op_rep (pe_lst (pa_cons (pv 3) pa_nil)) pe_int) pa_nil)) (nomark _)) (pss_one (ps_ret pe_bl)) pss_nil)
      (C8.pss_cut (ps_set (i := 5) nd rfl (Or.inl rfl) (pe_lst (pa_cons (pe_callN G_trail_after (hr.mono (by decide)) (by rfl) T.g_trail_after T.F_trail_after.kp T.kn_trail_after pass0 (pa_cons (pv 0) pa_nil) (pk_cons (pv 1) pk_nil)) (pa_cons (pe_callK0 G_trail_after (hr.mono (by decide)) (by rfl) T.g_trail_after T.F_trail_after.kp T.kb_trail_after_start_visits pass0 (pk_cons (pv 1) (pk_cons (pv 0) pk_nil))) pa_nil))))
      (C8.pss_cut (ps_if (pt_cmpR op_ne (pe_callB (call_show hG hU) (by rfl) T.n_repr (by decide +kernel) (pa_cons (pv 5) pa_nil)) (pe_callB (call_show hG hU) (by rfl) T.n_repr (by decide +kernel) (pa_cons (pe_lst (pa_cons (pv 4) (pa_cons (pv 4) pa_nil))) pa_nil)) (nomark _)) (pss_one (ps_ret pe_bl)) pss_nil)
      (C8.pss_cut (ps_expr (pe_bm PySem.F.plainAttrs_list PySem.F.slot_list_append PySem.F.type_list_append mt_append (pe_ix ix_list (pv 5) pe_int (fun _ _ => rfl)) (pa_cons pe_non pa_nil)))
      (pss_one (ps_ret (pe_and (pe_cmpR op_eq (pe_callB (call_show hG hU) (by rfl) T.n_repr (by decide +kernel) (pa_cons (pe_callN G_trail_after (hr.mono (by decide)) (by rfl) T.g_trail_after T.F_trail_after.kp T.kn_trail_after pass0 (pa_cons (pv 0) pa_nil) (pk_cons (pv 1) pk_nil)) pa_nil)) (pe_callB (call_show hG hU) (by rfl) T.n_repr (by decide +kernel) (pa_cons (pv 4) pa_nil)) (nomark _)) (pe_one (pe_cmpR op_eq (pe_callB (call_show hG hU) (by rfl) T.n_repr (by decide +kernel) (pa_cons (pe_lst (pa_cons (pv 0) (pa_cons (pv 1) pa_nil))) pa_nil)) (pv 2) (nomark _))))))))))))), ?_⟩
    have hpl : ∀ t0 : List Int, t0.length ≤ 40 → Pgs t0 → (play t0 l).length ≤ 1000 ∧ ∀ z ∈ play t0 l, 0 ≤ z ∧ z ≤ 1000 := fun t0 h0 hp0 => by
      refine ⟨Nat.le_trans (play_len l t0) (by omega), fun z hz => ?_⟩
      rcases play_mem hz with hz | hz
      · have := hp0 z hz
        omega
      · have := hp z hz
        omega
    have p0 := hpl [] (by decide) pgs0
    have p1 := hpl t ht hpt
    have shS : ∀ (ts : List (List Int)), ts.length ≤ 3 → (∀ x ∈ ts, x.length ≤ 1000 ∧ ∀ z ∈ x, 0 ≤ z ∧ z ≤ 1000) → Sh 2 10000 (nnD ts) := fun ts h3 hx =>
      (sh_nnD hx).mono (Nat.le_refl _) (by omega)
    have shB : Sh 2 10000 (nnD [l, t]) := shS _ (by show 2 ≤ 3; decide) fun x hx => by
      rcases List.mem_cons.mp hx with rfl | hx
      · exact ⟨by omega, fun z hz => by have := hp z hz; omega⟩
      · rw [List.mem_singleton.mp hx]
        exact ⟨by omega, fun z hz => by have := hpt z hz; omega⟩
    -- before
    refine ⟨fun σ H' => Same H H' ∧ σ = [some (.ref a), some (.ref r), some (.str (nnD [l, t]).shown), none, none, none], ?_, ?_⟩
    · exact ⟨_, rfl, _, rfl, (by show 2 ≤ sizeLine; decide), fun b hb => ⟨b, nnD [l, t], rfl, dp_nnD (as := [a, r]) upd_same (.cons ((same_new hb) _ _ ea) (.cons ((same_new hb) _ _ er) .nil)), shB.showable, shB.noDict, Nat.le_trans shB.deep (by decide), shB.fits (by decide), same_new hb, rfl⟩⟩
    rintro σ H1 ⟨s1, rfl⟩
    -- plain, due
    refine ⟨fun σ H' => ∃ pl du, Same H H' ∧ H' pl = some (.lst ((play [] l).map V.int)) ∧ H' du = some (.lst ((play t l).map V.int)) ∧ σ = [some (.ref a), some (.ref r), some (.str (nnD [l, t]).shown), some (.ref pl), some (.ref du), none], ?_, ?_⟩
    · refine ⟨Nat.zero_le _, fun e0 he0 => ⟨(by show 1 ≤ sizeLine; decide), fun e1 he1 => ⟨Nat.zero_le _, fun e2 he2 => ⟨_, rfl, e2, a, [], l, rfl, upd_same, ?_, Nat.zero_le _, by omega, fun H3 F as s3 hF eF hR hx => ?_⟩⟩⟩⟩
      · exact ((same_new he0).trans ((same_new he1).trans (same_new he2))) _ _ (s1 _ _ ea)
      have s13 : Same H1 H3 := (same_new he0).trans ((same_new he1).trans ((same_new he2).trans s3))
      have g0 : H3 e0 = some (.lst (([] : List Int).map V.int)) := s3 _ _ ((same_new he2) _ _ ((same_new he1) _ _ upd_same))
      have g1 : H3 e1 = some (.lst [.ref e0]) := s3 _ _ ((same_new he2) _ _ upd_same)
      refine ⟨e1, F, _, _, rfl, rfl, g1, eF, ?_, fun c hc => ?_⟩
      · rw [List.length_map, hR.length, scan_len]
        show 1 + l.length ≤ sizeLine
        exact Nat.le_trans (show 1 + l.length ≤ 400 by omega) (by decide)
      have R0 : Rows (upd H3 c (.lst ([V.ref e0] ++ as.map V.ref))) (e0 :: as) ([] :: scan [] l) := Rows.same (same_new hc) (.cons g0 hR)
      obtain ⟨pl, al, el⟩ := R0.last (List.cons_ne_nil _ _)
      rw [scan_last] at el
      have s14 : Same H1 (upd H3 c (.lst ([V.ref e0] ++ as.map V.ref))) := s13.trans (same_new hc)
      refine ⟨_, rfl, c, _, _, _, rfl, rfl, .inl (.inl upd_same), al, ?_⟩
      refine ⟨_, rfl, (by show 1 ≤ sizeLine; decide), fun e4 he4 => ⟨_, rfl, _, rfl, r, a, t, l, rfl, ?_, ?_, by omega, by omega, fun H5 F2 as2 s5 hF2 eF2 hR2 hx2 => ?_⟩⟩
      · exact (s14.trans (same_new he4)) _ _ (s1 _ _ er)
      · exact (s14.trans (same_new he4)) _ _ (s1 _ _ ea)
      have s15 : Same H1 H5 := s14.trans ((same_new he4).trans s5)
      refine ⟨e4, F2, _, _, rfl, rfl, s5 _ _ upd_same, eF2, ?_, fun c2 hc2 => ?_⟩
      · rw [List.length_map, hR2.length, scan_len]
        show 1 + l.length ≤ sizeLine
        exact Nat.le_trans (show 1 + l.length ≤ 400 by omega) (by decide)
      have R1 : Rows (upd H5 c2 (.lst ([V.ref r] ++ as2.map V.ref))) (r :: as2) (t :: scan t l) := Rows.same (same_new hc2) (.cons (s15 _ _ (s1 _ _ er)) hR2)
      obtain ⟨du, ad, ed⟩ := R1.last (List.cons_ne_nil _ _)
      rw [scan_last] at ed
      refine ⟨_, rfl, c2, _, _, _, rfl, rfl, .inl (.inl upd_same), ad, _, _, rfl, ?_⟩
      exact ⟨pl, du, s1.trans (s15.trans (same_new hc2)), (same_new hc2) _ _ (s5 _ _ ((same_new he4) _ _ el)), ed, rfl⟩
    rintro σ H2 ⟨pl, du, s2, epl, edu, rfl⟩
    -- told
    refine ⟨fun σ H' => ∃ T u1 u2 u3, Same H H' ∧ H' pl = some (.lst ((play [] l).map V.int)) ∧ H' du = some (.lst ((play t l).map V.int)) ∧ H' T = some (.lst ([u1, u2, u3].map V.ref)) ∧ Rows H' [u1, u2, u3] [play [] l, play [] l, play [] l] ∧ σ = [some (.ref a), some (.ref r), some (.str (nnD [l, t]).shown), some (.ref pl), some (.ref du), some (.ref T)], ?_, ?_⟩
    · refine ⟨_, rfl, a, l, [], .non, rfl, s2 _ _ ea, hl, hp, .inl ⟨rfl, rfl⟩, fun H3 u1 s3 f1 e1 => ?_⟩
      have s3' := s2.trans s3
      refine ⟨_, rfl, rfl, rfl, a, l, [], .non, rfl, s3' _ _ ea, hl, hp, .inl ⟨rfl, rfl⟩, fun H4 u2 s4 f2 e2 => ?_⟩
      have s4' := s3'.trans s4
      refine ⟨_, rfl, Nat.zero_le _, fun z hz => ⟨a, l, [], .ref z, rfl, (same_new hz) _ _ (s4' _ _ ea), hl, hp, .inr ⟨z, rfl, upd_same, List.nodup_nil, pgs0, Nat.zero_le _⟩, fun H5 u3 s5 f3 e3 => ⟨(by show 3 ≤ sizeLine; decide), fun T hT => ?_⟩⟩⟩
      have k45 : Same H4 (upd H5 T (.lst [.ref u1, .ref u2, .ref u3])) := (same_new hz).trans (s5.trans (same_new hT))
      refine ⟨T, u1, u2, u3, s4'.trans k45, k45 _ _ (s4 _ _ (s3 _ _ epl)), k45 _ _ (s4 _ _ (s3 _ _ edu)), upd_same, .cons (k45 _ _ (s4 _ _ e1)) (.cons (k45 _ _ e2) (.cons ((same_new hT) _ _ e3) .nil)), rfl⟩
    rintro σ H3 ⟨T, u1, u2, u3, s3, epl3, edu3, eT, hR, rfl⟩
    -- the first comparison
    have sh3 : Sh 2 10000 (nnD [play [] l, play [] l, play [] l]) := shS _ (by show 3 ≤ 3; decide) fun x hx => by
      rcases List.mem_cons.mp hx with rfl | hx
      · exact p0
      rcases List.mem_cons.mp hx with rfl | hx
      · exact p0
      · rw [List.mem_singleton.mp hx]
        exact p0
    refine ⟨fun σ H' => Same H H' ∧ H' du = some (.lst ((play t l).map V.int)) ∧ σ = [some (.ref a), some (.ref r), some (.str (nnD [l, t]).shown), some (.ref pl), some (.ref du), some (.ref T)], ?_, ?_⟩
    · refine ⟨_, rfl, T, _, rfl, dp_nnD eT hR, sh3.showable, sh3.noDict, Nat.le_trans sh3.deep (by decide), sh3.fits (by decide), ?_⟩
      refine ⟨_, rfl, (by show 1 ≤ sizeLine; decide), fun b hb => ⟨b, 3, _, rfl, rfl, upd_same, by decide, by decide, (by show 3 ≤ sizeLine; decide), fun c hc => ?_⟩⟩
      have k : Same H3 (upd (upd H3 b (.lst [.ref pl])) c (.lst (List.replicate (3 : Int).toNat [V.ref pl]).flatten)) := (same_new hb).trans (same_new hc)
      refine ⟨c, nnD [play [] l, play [] l, play [] l], rfl, dp_nnD (as := [pl, pl, pl]) upd_same (.cons (k _ _ epl3) (.cons (k _ _ epl3) (.cons (k _ _ epl3) .nil))), sh3.showable, sh3.noDict, Nat.le_trans sh3.deep (by decide), sh3.fits (by decide), rfl, _, rfl, iteNS rfl ?_⟩
      exact ⟨s3.trans k, k _ _ edu3, rfl⟩
    rintro σ H4 ⟨s4, edu4, rfl⟩
    -- told, again
    refine ⟨fun σ H' => ∃ T u1 u2, Same H H' ∧ H' du = some (.lst ((play t l).map V.int)) ∧ H' T = some (.lst ([u1, u2].map V.ref)) ∧ Rows H' [u1, u2] [play t l, play t l] ∧ H u1 = none ∧ u1 ≠ du ∧ σ = [some (.ref a), some (.ref r), some (.str (nnD [l, t]).shown), some (.ref pl), some (.ref du), some (.ref T)], ?_, ?_⟩
    · refine ⟨_, rfl, _, rfl, rfl, rfl, a, l, t, .ref r, rfl, s4 _ _ ea, hl, hp, .inr ⟨r, rfl, s4 _ _ er, hn, hpt, by omega⟩, fun H5 u1 s5 f1 e1 => ?_⟩
      have s5' := s4.trans s5
      refine ⟨_, rfl, _, rfl, a, l, t, .ref r, rfl, s5' _ _ ea, hl, hp, .inr ⟨r, rfl, s5' _ _ er, hn, hpt, by omega⟩, fun H6 u2 s6 f2 e2 => ⟨(by show 2 ≤ sizeLine; decide), fun T hT => ?_⟩⟩
      have k : Same H5 (upd H6 T (.lst [.ref u1, .ref u2])) := s6.trans (same_new hT)
      exact ⟨T, u1, u2, s5'.trans k, k _ _ (s5 _ _ edu4), upd_same, .cons (k _ _ e1) (.cons ((same_new hT) _ _ e2) .nil), s4.free f1, (ne_of_none edu4 f1).symm, rfl⟩
    rintro σ H5 ⟨T, u1, u2, s5, edu5, eT, hR, hu1, nu, rfl⟩
    -- the second comparison
    have sh2 : Sh 2 10000 (nnD [play t l, play t l]) := shS _ (by show 2 ≤ 3; decide) fun x hx => by
      rcases List.mem_cons.mp hx with rfl | hx
      · exact p1
      · rw [List.mem_singleton.mp hx]
        exact p1
    refine ⟨fun σ H' => Same H H' ∧ H' du = some (.lst ((play t l).map V.int)) ∧ H' T = some (.lst ([u1, u2].map V.ref)) ∧ H' u1 = some (.lst ((play t l).map V.int)) ∧ σ = [some (.ref a), some (.ref r), some (.str (nnD [l, t]).shown), some (.ref pl), some (.ref du), some (.ref T)], ?_, ?_⟩
    · refine ⟨_, rfl, T, _, rfl, dp_nnD eT hR, sh2.showable, sh2.noDict, Nat.le_trans sh2.deep (by decide), sh2.fits (by decide), ?_⟩
      refine ⟨_, rfl, _, rfl, (by show 2 ≤ sizeLine; decide), fun b hb => ?_⟩
      have k : Same H5 (upd H5 b (.lst [.ref du, .ref du])) := same_new hb
      refine ⟨b, nnD [play t l, play t l], rfl, dp_nnD (as := [du, du]) upd_same (.cons (k _ _ edu5) (.cons (k _ _ edu5) .nil)), sh2.showable, sh2.noDict, Nat.le_trans sh2.deep (by decide), sh2.fits (by decide), rfl, _, rfl, iteNS rfl ?_⟩
      cases hR with
      | cons h1 _ => exact ⟨s5.trans k, k _ _ edu5, k _ _ eT, k _ _ h1, rfl⟩
    rintro σ H6 ⟨s6, edu6, eT6, eu1, rfl⟩
    -- told[0].append(None)
    refine ⟨fun σ H' => Same H H' ∧ H' du = some (.lst ((play t l).map V.int)) ∧ σ = [some (.ref a), some (.ref r), some (.str (nnD [l, t]).shown), some (.ref pl), some (.ref du), some (.ref T)], ?_, ?_⟩
    · refine ⟨.ref T, rfl, T, _, _, _, rfl, rfl, .inl (.inl eT6), atI_nat (j := 0) rfl, .inl ⟨rfl, _, .inl (.inl eu1)⟩, u1, _, _, rfl, rfl, eu1, ?_, ?_, (upd_ne nu.symm).trans edu6, rfl⟩
      · rw [List.length_map]
        exact Nat.lt_of_le_of_lt p1.1 (by decide)
      · intro b o e
        rw [upd_ne (ne_of_none e hu1)]
        exact s6 _ _ e
    rintro σ H7 ⟨s7, edu7, rfl⟩
    -- the end
    have sh1 : Sh 2 10000 (nD (play t l)) := (sh_nD p1.2).mono (by decide) (by have := p1.1; omega)
    refine ⟨_, rfl, _, rfl, rfl, rfl, a, l, t, .ref r, rfl, s7 _ _ ea, hl, hp, .inr ⟨r, rfl, s7 _ _ er, hn, hpt, by omega⟩, fun H8 u s8 f1 e1 => ?_⟩
    refine ⟨u, nD (play t l), rfl, dp_nD (.inl (.inl e1)), sh1.showable, sh1.noDict, Nat.le_trans sh1.deep (by decide), sh1.fits (by decide), ?_⟩
    refine ⟨_, rfl, du, nD (play t l), rfl, dp_nD (.inl (.inl (s8 _ _ edu7))), sh1.showable, sh1.noDict, Nat.le_trans sh1.deep (by decide), sh1.fits (by decide), rfl, _, rfl, ?_⟩
    rw [decide_eq_true rfl]
    refine iteT ⟨_, rfl, _, rfl, (by show 2 ≤ sizeLine; decide), fun b hb => ?_⟩
    have k : Same H (upd H8 b (.lst [.ref a, .ref r])) := (s7.trans s8).trans (same_new hb)
    refine ⟨b, nnD [l, t], rfl, dp_nnD (as := [a, r]) upd_same (.cons (k _ _ ea) (.cons (k _ _ er) .nil)), shB.showable, shB.noDict, Nat.le_trans shB.deep (by decide), shB.fits (by decide), _, rfl, rfl, ?_⟩
    show Q (.bl (decide (V.str (nnD [l, t]).shown = V.str (nnD [l, t]).shown))) _
    rw [decide_eq_true rfl]
    exact q _ k
def sp_law (K : PySem.W.Frag) : Sp := fun vs H Q _ => ∃ (a : Addr) (ns : List Int), vs = [.ref a] ∧ SqL K H a (ns.map V.int) ∧ ns.length ≤ 63 ∧ (∀ b, H b ≠ none → b = a) ∧ ∀ H', Q (.bl true) H'
theorem ok_law (T : Top K mg)
    (G__law_pool : FnOk P w K mg base CX0 1 T.a__law_pool T.d__law_pool ["_law_script", "_law_k"] (sp__law_pool K))
    (G__law_line : FnOk P w K mg base CX0 2 T.a__law_line T.d__law_line ["_law_pool_here", "_law_script"] (sp__law_line K))
    (G__law_some : FnOk P w K mg base CX0 2 T.a__law_some T.d__law_some ["_law_pool_here", "_law_most"] (sp__law_some K))
    (G__law_right : FnG P w K mg base CX0 8 T.a__law_right T.d__law_right ["_law_line_here", "_law_row"] (sp__law_right K)) :
    FnG P w K mg base CX0 9 T.a_law T.d_law ["_law_script"] (sp_law K) := by
  refine Fun_okG T.F_law sc_law (fun vs H Q E h => ?_) (fun cdv A outer s H vs Q E hG hr h => ?_)
  · obtain ⟨a, ns, rfl, _⟩ := h
    rfl
  · obtain ⟨a, ns, rfl, hS, hl, one, q⟩ := h
    have nd := sc_law.nd
    have hu := hu_of hr
    have hU := units_of hr
    have hu64 := u64_of hr
    refine ⟨_, (pss_cons (ps_for PassesOwn.never rfl (pi_range1 (by rfl) T.n_range (pa_cons (pe_callB (call_max2 rfl) (by rfl) T.n_max (by decide +kernel) (pa_cons pe_int (pa_cons (pe_callB (call_min2 rfl) (by rfl) T.n_min (by decide +kernel) (pa_cons pe_int (pa_cons (pe_callB call_len_seq (by rfl) T.n_len (by decide +kernel) (pa_cons (pv 0) pa_nil)) pa_nil))) pa_nil))) pa_nil)) (pg_name (i := 1) nd rfl (Or.inl rfl)) (pss_cons (ps_set (i := 2) nd rfl (Or.inl rfl) (pe_call G__law_pool (hr.mono (by decide)) (by rfl) T.g__law_pool T.F__law_pool.kp T.b__law_pool .nil pass0 (pa_cons (pv 0) (pa_cons (pv 1) pa_nil))))
      (pss_cons (ps_set (i := 3) nd rfl (Or.inr rfl) (pe_call G__law_line (hr.mono (by decide)) (by rfl) T.g__law_line T.F__law_line.kp T.b__law_line .nil pass0 (pa_cons (pv 2) (pa_cons (pv 0) pa_nil))))
      (pss_cons (ps_set (i := 4) nd rfl (Or.inl rfl) (pe_call G__law_some (hr.mono (by decide)) (by rfl) T.g__law_some T.F__law_some.kp T.b__law_some .nil pass0 (pa_cons (pv 2) (pa_cons pe_int pa_nil))))
      (pss_cons (ps_for PassesOwn.never rfl (pi_range1 (by rfl) T.n_range (pa_cons pe_int pa_nil)) (pg_name (i := 5) nd rfl (Or.inl rfl)) (pss_cons (ps_if (pt_not (pt_val (pe_callG G__law_right hG (hr.mono (by decide)) (by rfl) T.g__law_right T.F__law_right.kp T.b__law_right .nil pass0 (pa_cons (pv 3) (pa_cons (pv 4) pa_nil))))) (pss_one (ps_ret pe_bl)) pss_nil)
      (pss_cons (ps_expr (pe_bm0 PySem.F.plainAttrs_list PySem.F.slot_list_reverse PySem.F.type_list_reverse mt_reverse (pv 3)))
      (pss_one (ps_asg (pe_op op_cat (pe_lc (own := [("_law_far", 6)])  rfl nd  (pi_list (pe_call G__law_some (hr.mono (by decide)) (by rfl) T.g__law_some T.F__law_some.kp T.b__law_some .nil pass0 (pa_cons (pv 2) (pa_cons pe_int pa_nil)))) (blkOk_by (N := N_law) (sc := defScope s_law) (by decide +kernel)) (fun _ _ _ _ _ => (pg_name (i := 6) nd rfl (Or.inl rfl))) (fun _ _ _ _ _ => (pts_one (pt_cmpR (op_notInK (K := K) rfl) (pv 6) (pv 3) rfl))) (fun _ _ _ _ _ => (pv 6))) (pe_slice sl_list (pv 3) po_none (po_some pe_int))) (pg_all (pv 4)))))))
      (pss_one (ps_if (pt_not (pt_val (pe_callG G__law_right hG (hr.mono (by decide)) (by rfl) T.g__law_right T.F__law_right.kp T.b__law_right .nil pass0 (pa_cons (pe_lst pa_nil) (pa_cons (pv 4) pa_nil))))) (pss_one (ps_ret pe_bl)) pss_nil)))))))
      (pss_one (ps_ret pe_bl))), ?_⟩
    refine ⟨.ref a, rfl, a, _, rfl, .inl hS, _, _, rfl, _, _, rfl, _, rfl, ?_, ?_, for_range (fun i σ H2 => ∃ y1 y2 y3 y4 y5 y6, σ = [some (.ref a), y1, y2, y3, y4, y5, y6] ∧ Same H H2) ⟨_, _, _, _, _, _, rfl, Same.refl H⟩ (fun i σ H2 hi hW => ?_) (fun σ H2 hW => ?_)⟩
    · rw [List.length_map]
      split <;> split <;> omega
    · rw [List.length_map]
      split <;> split <;> omega
    · obtain ⟨y1, y2, y3, y4, y5, y6, rfl, s2⟩ := hW
      have hi8 : i < 8 := by
        rw [List.length_map] at hi
        split at hi <;> split at hi <;> omega
      have hS2 := s2.seq hS
      -- the pool
      refine ⟨_, rfl, _, rfl, a, ns, i, (by rw [Int.zero_add]; rfl), hS2, by omega, fun H3 p s3 fp P3 => ?_⟩
      have hS3 := s3.seq hS2
      have hap : Apart K a p (ns.map V.int) := apart_of hS2 fp
      have fp0 : H p = none := s2.free fp
      -- the line
      refine ⟨_, rfl, _, rfl, p, a, ns, 0, rfl, P3, by decide, hS3, hap, fun H4 la l b4 P4 fl el l1 l2 lp => ?_⟩
      have nlp : la ≠ p := fun e => by
        obtain ⟨o, eo⟩ := P3.at
        rw [e, eo] at fl
        cases fl
      have fl0 : H la = none := s2.free (s3.free fl)
      -- the row
      refine ⟨_, rfl, p, 40, _, rfl, P4, by decide, by decide, by decide, fun H5 ra t b5 P5 fr er tn tp tl => ?_⟩
      have nrp : ra ≠ p := fun e => by
        obtain ⟨o, eo⟩ := P4.at
        rw [e, eo] at fr
        cases fr
      have nrl : ra ≠ la := fun e => by
        rw [e, el] at fr
        cases fr
      have s4 : Same H H4 := fun b o e => b4 b o (ne_of_none e fp0) (s3 _ _ (s2 _ _ e))
      have fr0 : H ra = none := s4.free fr
      have s5 : Same H H5 := fun b o e => b5 b o (ne_of_none e fp0) (s4 _ _ e)
      have el5 := b5 _ _ nlp el
      -- three turns
      refine ⟨3, rfl, by decide, by decide, for_range (n := 3) (fun j σ H6 => ∃ y5 y6, ∃ l t : List Int, σ = [some (.ref a), some (.int (0 + i)), some (.ref p), some (.ref la), some (.ref ra), y5, y6] ∧ Same H H6 ∧ Pl H6 p (760 + 60 * j) ∧ H6 la = some (.lst (l.map V.int)) ∧ H6 ra = some (.lst (t.map V.int)) ∧
          l.length ≤ 300 ∧ Pgs l ∧ t.length ≤ 40 ∧ t.Nodup ∧ Pgs t) ⟨_, _, l, t, rfl, s5, P5.mono (by decide), el5, er, l2, lp, by omega, tn, tp⟩ (fun j σ H6 hj hW => ?_) (fun σ H6 hW => ?_)⟩
      · clear el el5 er l1 l2 lp tn tp tl
        obtain ⟨y5, y6, l, t, rfl, s6, P6, el, er, l2, lp, tl, tn, tp⟩ := hW
        refine ⟨_, rfl, _, rfl, la, ra, l, t, rfl, el, er, l2, lp, tl, tn, tp, fun H7 s7 => ⟨_, rfl, ?_⟩⟩
        show if (!true) = true then _ else _
        refine iteF ?_
        have el7 := s7 _ _ el
        have er7 := s7 _ _ er
        have P7 := P6.same s7
        have s07 := s6.trans s7
        -- line.reverse()
        refine ⟨_, rfl, .inl ⟨rfl, _, .inl (.inl el7)⟩, la, _, rfl, rfl, el7, ?_⟩
        rw [← List.map_reverse]
        have lrp : Pgs l.reverse := fun z hz => lp z (List.mem_reverse.mp hz)
        have lrl : l.reverse.length ≤ 300 := by
          rw [List.length_reverse]
          exact l2
        generalize l.reverse = lr at lrp lrl ⊢
        have eL : upd H7 la (.lst (lr.map V.int)) la = some (.lst (lr.map V.int)) := upd_same
        have eR : upd H7 la (.lst (lr.map V.int)) ra = some (.lst (t.map V.int)) := (upd_ne nrl).trans er7
        have sU : Same H (upd H7 la (.lst (lr.map V.int))) := fun b o e => (upd_ne (ne_of_none e fl0)).trans (s07 _ _ e)
        have PU : Pl (upd H7 la (.lst (lr.map V.int))) p (760 + 60 * j) := by
          obtain ⟨x, y, z, e, e2⟩ := P7
          exact ⟨x, y, z, (upd_ne nlp.symm).trans e, e2⟩
        generalize upd H7 la (.lst (lr.map V.int)) = HU at eL eR sU PU ⊢
        -- the fresh pages
        refine ⟨_, rfl, p, 20, _, rfl, PU, by omega, by decide, by decide, fun H8 sa ls b8 P8 fs es sn sp sl => ⟨sa, rfl, ⟨_, .inl (.inl es)⟩, fun D hD => ?_⟩⟩
        have nsp : sa ≠ p := fun e => by
          obtain ⟨o, eo⟩ := PU.at
          rw [e, eo] at fs
          cases fs
        have eL8 := b8 _ _ nlp eL
        have eR8 := b8 _ _ nrp eR
        have s8 : Same H H8 := fun b o e => b8 b o (ne_of_none e fp0) (sU _ _ e)
        refine lc_list (xs := ls.map V.int) (fun i H' => (∀ b, b ≠ D → H' b = H8 b) ∧ H' D = some (.lst (((ls.take i).filter fun z => !decide (z ∈ lr)).map V.int))) ⟨fun b nb => upd_ne nb, upd_same⟩ (fun i H' _ hp => ?_) (fun i x H' hx hp => ?_) (fun H' hp => ?_)
        · exact .inl (.inl ((hp.1 sa (ne_of_none es hD)).trans es))
        · obtain ⟨z, hz, rfl⟩ := at_nums hx
          obtain ⟨h1, h2⟩ := hp
          refine ⟨rfl, _, rfl, _, rfl, la, _, rfl, .inl (.inl (.inl ((h1 la (ne_of_none eL8 hD)).trans eL8))), rfl, flat_nums _, _, rfl, ?_⟩
          show if (!inV (.int z) (lr.map V.int)) = true then _ else _
          rw [inV_nums]
          have stp := take_filter (fun z => !decide (z ∈ lr)) hz
          refine ite2 (fun c => ?_) (fun c => ?_)
          · refine ⟨_, rfl, _, h2, ?_, fun b nb => (upd_ne nb).trans (h1 b nb), ?_⟩
            · rw [List.length_map]
              have h3 := List.length_filter_le (fun z => !decide (z ∈ lr)) (ls.take i)
              rw [List.length_take] at h3
              exact Nat.lt_of_le_of_lt h3 (Nat.lt_of_le_of_lt (show min i ls.length ≤ 20 by omega) (by decide))
            · rw [upd_same, stp, if_pos c, List.map_append]
              rfl
          · refine ⟨h1, ?_⟩
            rw [h2, stp, if_neg c, List.append_nil]
        · obtain ⟨h1, h2⟩ := hp
          rw [List.length_map, List.take_length] at h2
          have eL9 := (h1 la (ne_of_none eL8 hD)).trans eL8
          have eR9 := (h1 ra (ne_of_none eR8 hD)).trans eR8
          have D0 : H D = none := s8.free hD
          have nDp : D ≠ p := fun e => by
            obtain ⟨o, eo⟩ := P8.at
            rw [e, eo] at hD
            cases hD
          refine ⟨_, rfl, _, rfl, la, _, rfl, .inl (.inl eL9), fun c hc => ?_⟩
          rw [show (1 : Int) = ((1 : Nat) : Int) from rfl, cut_to, ← List.map_take]
          have nDc : D ≠ c := ne_of_none h2 hc
          refine ⟨D, c, _, _, rfl, rfl, (upd_ne nDc).trans h2, upd_same, ?_, fun g hg => ?_⟩
          · rw [List.length_map, List.length_map, List.length_take]
            have h3 := List.length_filter_le (fun z => !decide (z ∈ lr)) ls
            exact Nat.le_trans (show _ ≤ 100 by omega) (by decide)
          rw [← List.map_append]
          have ngr : ra ≠ g := fun e => by
            rw [e] at eR9
            have : upd H' c (.lst ((lr.take 1).map V.int)) g = some (.lst (t.map V.int)) := (upd_ne (ne_of_none eR9 hc)).trans eR9
            rw [this] at hg
            cases hg
          have ncr : ra ≠ c := ne_of_none eR9 hc
          refine ⟨_, rfl, ra, g, _, _, rfl, rfl, ngr, (upd_ne ngr).trans ((upd_ne ncr).trans eR9), upd_same, ?_, ?_⟩
          · rw [List.length_map, List.length_map, List.length_append, List.length_take]
            have h3 := List.length_filter_le (fun z => !decide (z ∈ lr)) ls
            exact Nat.le_trans (show _ ≤ 200 by omega) (by decide)
          · have hg' : H' g = none := by
              by_cases e : g = c
              · rw [e, upd_same] at hg
                cases hg
              · rw [upd_ne e] at hg
                exact hg
            refine ⟨_, _, lr, _, rfl, fun b o e => ?_, ?_, ?_, upd_same, lrl, lrp, ?_, ?_, ?_⟩
            · have e8 := s8 _ _ e
              have nbD : b ≠ D := ne_of_none e8 hD
              have e9 : H' b = some o := (h1 b nbD).trans e8
              rw [upd_ne (ne_of_none e fr0), upd_ne (ne_of_none e9 hg'), upd_ne (ne_of_none e9 hc)]
              exact e9
            · obtain ⟨x, y, z, e, e2⟩ := P8.mono (m := 760 + 60 * (j + 1)) (by omega)
              have e9 := (h1 p nDp.symm).trans e
              exact ⟨x, y, z, (upd_ne nrp.symm).trans ((upd_ne (ne_of_none e9 hg')).trans ((upd_ne (ne_of_none e9 hc)).trans e9)), e2⟩
            · rw [upd_ne nrl.symm, upd_ne (ne_of_none eL9 hg'), upd_ne (ne_of_none eL9 hc)]
              exact eL9
            · rw [List.length_append, List.length_take]
              have h3 := List.length_filter_le (fun z => !decide (z ∈ lr)) ls
              omega
            · rw [List.nodup_append]
              refine ⟨sn.sublist List.filter_sublist, ?_, fun x hx y hy e => ?_⟩
              · cases lr with
                | nil => exact List.nodup_nil
                | cons x r => exact List.pairwise_singleton _ _
              · have h5 := (List.mem_filter.mp hx).2
                rw [e, decide_eq_true (List.mem_of_mem_take hy)] at h5
                cases h5
            · intro z hz
              rcases List.mem_append.mp hz with hz | hz
              · exact sp z (List.mem_filter.mp hz).1
              · exact lrp z (List.mem_of_mem_take hz)
      · obtain ⟨y5, y6, l, t, rfl, s6, P6, el, er, l2, lp, tl, tn, tp⟩ := hW
        refine ⟨Nat.zero_le _, fun z hz => ⟨_, rfl, z, ra, [], t, rfl, upd_same, (same_new hz) _ _ er, Nat.zero_le _, pgs0, tl, tn, tp, fun H7 s7 => ⟨_, rfl, ?_⟩⟩⟩
        show if (!true) = true then _ else _
        refine iteF ?_
        exact ⟨_, _, _, _, _, _, rfl, s6.trans ((same_new hz).trans s7)⟩
    · exact q H2
end
section
variable {l : PySem.W.OpenLaw} {w : World} {K : PySem.W.Frag} {h : Heap} {mg : PySem.Str → Option Value}
theorem all_mk {fa : Addr} (X : K.In h) (G : h.Ns mainGlobals mg) (hfa : mg "law" = some (.ref fa))
    {f__law_pool : Addr} {od__law_pool an__law_pool : Option Addr} {sl__law_pool : Array (Option Value)} {oc__law_pool kV__law_pool dc__law_pool pm__law_pool cd__law_pool ct__law_pool : Value}
    (a__law_pool : PySem.W.nsIn K mainGlobals "_law_pool" = some (some (.ref f__law_pool)))
    (l__law_pool : K.lookup f__law_pool = some ⟨oc__law_pool, od__law_pool, .func (PySem.W.fnOf "_law_pool" "_law_pool" (defArgs s__law_pool) (defBody s__law_pool) (defScope s__law_pool) .none kV__law_pool dc__law_pool pm__law_pool an__law_pool cd__law_pool ct__law_pool), sl__law_pool⟩)
    (c__law_pool : PySem.W.codeIn K cd__law_pool "_law_pool" = true) (k__law_pool : PySem.W.keepIn K (.ref f__law_pool) = true)
    {f__law_draw : Addr} {od__law_draw an__law_draw : Option Addr} {sl__law_draw : Array (Option Value)} {oc__law_draw kV__law_draw dc__law_draw pm__law_draw cd__law_draw ct__law_draw : Value}
    (a__law_draw : PySem.W.nsIn K mainGlobals "_law_draw" = some (some (.ref f__law_draw)))
    (l__law_draw : K.lookup f__law_draw = some ⟨oc__law_draw, od__law_draw, .func (PySem.W.fnOf "_law_draw" "_law_draw" (defArgs s__law_draw) (defBody s__law_draw) (defScope s__law_draw) .none kV__law_draw dc__law_draw pm__law_draw an__law_draw cd__law_draw ct__law_draw), sl__law_draw⟩)
    (c__law_draw : PySem.W.codeIn K cd__law_draw "_law_draw" = true) (k__law_draw : PySem.W.keepIn K (.ref f__law_draw) = true)
    {f__law_line : Addr} {od__law_line an__law_line : Option Addr} {sl__law_line : Array (Option Value)} {oc__law_line kV__law_line dc__law_line pm__law_line cd__law_line ct__law_line : Value}
    (a__law_line : PySem.W.nsIn K mainGlobals "_law_line" = some (some (.ref f__law_line)))
    (l__law_line : K.lookup f__law_line = some ⟨oc__law_line, od__law_line, .func (PySem.W.fnOf "_law_line" "_law_line" (defArgs s__law_line) (defBody s__law_line) (defScope s__law_line) .none kV__law_line dc__law_line pm__law_line an__law_line cd__law_line ct__law_line), sl__law_line⟩)
    (c__law_line : PySem.W.codeIn K cd__law_line "_law_line" = true) (k__law_line : PySem.W.keepIn K (.ref f__law_line) = true)
    {f__law_some : Addr} {od__law_some an__law_some : Option Addr} {sl__law_some : Array (Option Value)} {oc__law_some kV__law_some dc__law_some pm__law_some cd__law_some ct__law_some : Value}
    (a__law_some : PySem.W.nsIn K mainGlobals "_law_some" = some (some (.ref f__law_some)))
    (l__law_some : K.lookup f__law_some = some ⟨oc__law_some, od__law_some, .func (PySem.W.fnOf "_law_some" "_law_some" (defArgs s__law_some) (defBody s__law_some) (defScope s__law_some) .none kV__law_some dc__law_some pm__law_some an__law_some cd__law_some ct__law_some), sl__law_some⟩)
    (c__law_some : PySem.W.codeIn K cd__law_some "_law_some" = true) (k__law_some : PySem.W.keepIn K (.ref f__law_some) = true)
    {f_is_int : Addr} {od_is_int an_is_int : Option Addr} {sl_is_int : Array (Option Value)} {oc_is_int kV_is_int dc_is_int pm_is_int cd_is_int ct_is_int : Value}
    (a_is_int : PySem.W.nsIn K mainGlobals "is_int" = some (some (.ref f_is_int)))
    (l_is_int : K.lookup f_is_int = some ⟨oc_is_int, od_is_int, .func (PySem.W.fnOf "is_int" "is_int" (defArgs s_is_int) (defBody s_is_int) (defScope s_is_int) .none kV_is_int dc_is_int pm_is_int an_is_int cd_is_int ct_is_int), sl_is_int⟩)
    (c_is_int : PySem.W.codeIn K cd_is_int "is_int" = true) (k_is_int : PySem.W.keepIn K (.ref f_is_int) = true)
    {f_is_between : Addr} {od_is_between an_is_between : Option Addr} {sl_is_between : Array (Option Value)} {oc_is_between kV_is_between dc_is_between pm_is_between cd_is_between ct_is_between : Value}
    (a_is_between : PySem.W.nsIn K mainGlobals "is_between" = some (some (.ref f_is_between)))
    (l_is_between : K.lookup f_is_between = some ⟨oc_is_between, od_is_between, .func (PySem.W.fnOf "is_between" "is_between" (defArgs s_is_between) (defBody s_is_between) (defScope s_is_between) .none kV_is_between dc_is_between pm_is_between an_is_between cd_is_between ct_is_between), sl_is_between⟩)
    (c_is_between : PySem.W.codeIn K cd_is_between "is_between" = true) (k_is_between : PySem.W.keepIn K (.ref f_is_between) = true)
    {f_are_pages : Addr} {od_are_pages an_are_pages : Option Addr} {sl_are_pages : Array (Option Value)} {oc_are_pages kV_are_pages dc_are_pages pm_are_pages cd_are_pages ct_are_pages : Value}
    (a_are_pages : PySem.W.nsIn K mainGlobals "are_pages" = some (some (.ref f_are_pages)))
    (l_are_pages : K.lookup f_are_pages = some ⟨oc_are_pages, od_are_pages, .func (PySem.W.fnOf "are_pages" "are_pages" (defArgs s_are_pages) (defBody s_are_pages) (defScope s_are_pages) .none kV_are_pages dc_are_pages pm_are_pages an_are_pages cd_are_pages ct_are_pages), sl_are_pages⟩)
    (c_are_pages : PySem.W.codeIn K cd_are_pages "are_pages" = true) (k_are_pages : PySem.W.keepIn K (.ref f_are_pages) = true)
    {f_is_visits : Addr} {od_is_visits an_is_visits : Option Addr} {sl_is_visits : Array (Option Value)} {oc_is_visits kV_is_visits dc_is_visits pm_is_visits cd_is_visits ct_is_visits : Value}
    (a_is_visits : PySem.W.nsIn K mainGlobals "is_visits" = some (some (.ref f_is_visits)))
    (l_is_visits : K.lookup f_is_visits = some ⟨oc_is_visits, od_is_visits, .func (PySem.W.fnOf "is_visits" "is_visits" (defArgs s_is_visits) (defBody s_is_visits) (defScope s_is_visits) .none kV_is_visits dc_is_visits pm_is_visits an_is_visits cd_is_visits ct_is_visits), sl_is_visits⟩)
    (c_is_visits : PySem.W.codeIn K cd_is_visits "is_visits" = true) (k_is_visits : PySem.W.keepIn K (.ref f_is_visits) = true)
    {f_check_visits : Addr} {od_check_visits an_check_visits : Option Addr} {sl_check_visits : Array (Option Value)} {oc_check_visits kV_check_visits dc_check_visits pm_check_visits cd_check_visits ct_check_visits : Value}
    (a_check_visits : PySem.W.nsIn K mainGlobals "check_visits" = some (some (.ref f_check_visits)))
    (l_check_visits : K.lookup f_check_visits = some ⟨oc_check_visits, od_check_visits, .func (PySem.W.fnOf "check_visits" "check_visits" (defArgs s_check_visits) (defBody s_check_visits) (defScope s_check_visits) .none kV_check_visits dc_check_visits pm_check_visits an_check_visits cd_check_visits ct_check_visits), sl_check_visits⟩)
    (c_check_visits : PySem.W.codeIn K cd_check_visits "check_visits" = true) (k_check_visits : PySem.W.keepIn K (.ref f_check_visits) = true)
    {f_are_different_pages : Addr} {od_are_different_pages an_are_different_pages : Option Addr} {sl_are_different_pages : Array (Option Value)} {oc_are_different_pages kV_are_different_pages dc_are_different_pages pm_are_different_pages cd_are_different_pages ct_are_different_pages : Value}
    (a_are_different_pages : PySem.W.nsIn K mainGlobals "are_different_pages" = some (some (.ref f_are_different_pages)))
    (l_are_different_pages : K.lookup f_are_different_pages = some ⟨oc_are_different_pages, od_are_different_pages, .func (PySem.W.fnOf "are_different_pages" "are_different_pages" (defArgs s_are_different_pages) (defBody s_are_different_pages) (defScope s_are_different_pages) .none kV_are_different_pages dc_are_different_pages pm_are_different_pages an_are_different_pages cd_are_different_pages ct_are_different_pages), sl_are_different_pages⟩)
    (c_are_different_pages : PySem.W.codeIn K cd_are_different_pages "are_different_pages" = true) (k_are_different_pages : PySem.W.keepIn K (.ref f_are_different_pages) = true)
    {f_is_trail : Addr} {od_is_trail an_is_trail : Option Addr} {sl_is_trail : Array (Option Value)} {oc_is_trail kV_is_trail dc_is_trail pm_is_trail cd_is_trail ct_is_trail : Value}
    (a_is_trail : PySem.W.nsIn K mainGlobals "is_trail" = some (some (.ref f_is_trail)))
    (l_is_trail : K.lookup f_is_trail = some ⟨oc_is_trail, od_is_trail, .func (PySem.W.fnOf "is_trail" "is_trail" (defArgs s_is_trail) (defBody s_is_trail) (defScope s_is_trail) .none kV_is_trail dc_is_trail pm_is_trail an_is_trail cd_is_trail ct_is_trail), sl_is_trail⟩)
    (c_is_trail : PySem.W.codeIn K cd_is_trail "is_trail" = true) (k_is_trail : PySem.W.keepIn K (.ref f_is_trail) = true)
    {f_check_trail : Addr} {od_check_trail an_check_trail : Option Addr} {sl_check_trail : Array (Option Value)} {oc_check_trail kV_check_trail dc_check_trail pm_check_trail cd_check_trail ct_check_trail : Value}
    (a_check_trail : PySem.W.nsIn K mainGlobals "check_trail" = some (some (.ref f_check_trail)))
    (l_check_trail : K.lookup f_check_trail = some ⟨oc_check_trail, od_check_trail, .func (PySem.W.fnOf "check_trail" "check_trail" (defArgs s_check_trail) (defBody s_check_trail) (defScope s_check_trail) .none kV_check_trail dc_check_trail pm_check_trail an_check_trail cd_check_trail ct_check_trail), sl_check_trail⟩)
    (c_check_trail : PySem.W.codeIn K cd_check_trail "check_trail" = true) (k_check_trail : PySem.W.keepIn K (.ref f_check_trail) = true)
    {f_visited : Addr} {od_visited an_visited : Option Addr} {sl_visited : Array (Option Value)} {oc_visited kV_visited dc_visited pm_visited cd_visited ct_visited : Value}
    (a_visited : PySem.W.nsIn K mainGlobals "visited" = some (some (.ref f_visited)))
    (l_visited : K.lookup f_visited = some ⟨oc_visited, od_visited, .func (PySem.W.fnOf "visited" "visited" (defArgs s_visited) (defBody s_visited) (defScope s_visited) .none kV_visited dc_visited pm_visited an_visited cd_visited ct_visited), sl_visited⟩)
    (c_visited : PySem.W.codeIn K cd_visited "visited" = true) (k_visited : PySem.W.keepIn K (.ref f_visited) = true)
    {f_trail_after : Addr} {od_trail_after an_trail_after : Option Addr} {sl_trail_after : Array (Option Value)} {oc_trail_after dc_trail_after pm_trail_after cd_trail_after ct_trail_after : Value}
    (a_trail_after : PySem.W.nsIn K mainGlobals "trail_after" = some (some (.ref f_trail_after)))
    {kD_trail_after : Addr}
    (l_trail_after : K.lookup f_trail_after = some ⟨oc_trail_after, od_trail_after, .func (PySem.W.fnOf "trail_after" "trail_after" (defArgs s_trail_after) (defBody s_trail_after) (defScope s_trail_after) .none (.ref kD_trail_after) dc_trail_after pm_trail_after an_trail_after cd_trail_after ct_trail_after), sl_trail_after⟩)
    (c_trail_after : PySem.W.codeIn K cd_trail_after "trail_after" = true) (k_trail_after : PySem.W.keepIn K (.ref f_trail_after) = true)
    (w_trail_after : PySem.W.nsIn K kD_trail_after "start" = some (some .none))
    {f__law_after : Addr} {od__law_after an__law_after : Option Addr} {sl__law_after : Array (Option Value)} {oc__law_after kV__law_after dc__law_after pm__law_after cd__law_after ct__law_after : Value}
    (a__law_after : PySem.W.nsIn K mainGlobals "_law_after" = some (some (.ref f__law_after)))
    (l__law_after : K.lookup f__law_after = some ⟨oc__law_after, od__law_after, .func (PySem.W.fnOf "_law_after" "_law_after" (defArgs s__law_after) (defBody s__law_after) (defScope s__law_after) .none kV__law_after dc__law_after pm__law_after an__law_after cd__law_after ct__law_after), sl__law_after⟩)
    (c__law_after : PySem.W.codeIn K cd__law_after "_law_after" = true) (k__law_after : PySem.W.keepIn K (.ref f__law_after) = true)
    {f__law_trails : Addr} {od__law_trails an__law_trails : Option Addr} {sl__law_trails : Array (Option Value)} {oc__law_trails kV__law_trails dc__law_trails pm__law_trails cd__law_trails ct__law_trails : Value}
    (a__law_trails : PySem.W.nsIn K mainGlobals "_law_trails" = some (some (.ref f__law_trails)))
    (l__law_trails : K.lookup f__law_trails = some ⟨oc__law_trails, od__law_trails, .func (PySem.W.fnOf "_law_trails" "_law_trails" (defArgs s__law_trails) (defBody s__law_trails) (defScope s__law_trails) .none kV__law_trails dc__law_trails pm__law_trails an__law_trails cd__law_trails ct__law_trails), sl__law_trails⟩)
    (c__law_trails : PySem.W.codeIn K cd__law_trails "_law_trails" = true) (k__law_trails : PySem.W.keepIn K (.ref f__law_trails) = true)
    {f__law_right : Addr} {od__law_right an__law_right : Option Addr} {sl__law_right : Array (Option Value)} {oc__law_right kV__law_right dc__law_right pm__law_right cd__law_right ct__law_right : Value}
    (a__law_right : PySem.W.nsIn K mainGlobals "_law_right" = some (some (.ref f__law_right)))
    (l__law_right : K.lookup f__law_right = some ⟨oc__law_right, od__law_right, .func (PySem.W.fnOf "_law_right" "_law_right" (defArgs s__law_right) (defBody s__law_right) (defScope s__law_right) .none kV__law_right dc__law_right pm__law_right an__law_right cd__law_right ct__law_right), sl__law_right⟩)
    (c__law_right : PySem.W.codeIn K cd__law_right "_law_right" = true) (k__law_right : PySem.W.keepIn K (.ref f__law_right) = true)
    {f_law : Addr} {od_law an_law : Option Addr} {sl_law : Array (Option Value)} {oc_law kV_law dc_law pm_law cd_law ct_law : Value}
    (a_law : PySem.W.nsIn K mainGlobals "law" = some (some (.ref f_law)))
    (l_law : K.lookup f_law = some ⟨oc_law, od_law, .func (PySem.W.fnOf "law" "law" (defArgs s_law) (defBody s_law) (defScope s_law) .none kV_law dc_law pm_law an_law cd_law ct_law), sl_law⟩)
    (c_law : PySem.W.codeIn K cd_law "law" = true) (k_law : PySem.W.keepIn K (.ref f_law) = true)
    {t_PAGES : Tok} (v_PAGES : PySem.W.nsIn K mainGlobals "PAGES" = some (some (.int (40) t_PAGES)))
    {t_MOST_VISITS : Tok} (v_MOST_VISITS : PySem.W.nsIn K mainGlobals "MOST_VISITS" = some (some (.int (300) t_MOST_VISITS)))
    (z_len : PySem.W.nsIn K mainGlobals "len" = some none)
    (z_max : PySem.W.nsIn K mainGlobals "max" = some none)
    (z_range : PySem.W.nsIn K mainGlobals "range" = some none)
    (z_list : PySem.W.nsIn K mainGlobals "list" = some none)
    (z_isinstance : PySem.W.nsIn K mainGlobals "isinstance" = some none)
    (z_int : PySem.W.nsIn K mainGlobals "int" = some none)
    (z_bool : PySem.W.nsIn K mainGlobals "bool" = some none)
    (z_all : PySem.W.nsIn K mainGlobals "all" = some none)
    (z_set : PySem.W.nsIn K mainGlobals "set" = some none)
    (z_repr : PySem.W.nsIn K mainGlobals "repr" = some none)
    (z_min : PySem.W.nsIn K mainGlobals "min" = some none) :
    ∃ fd : FuncData, (∀ (s : Shared) (v : Value), BindsTo s fd ⟨[v], []⟩ [("_law_script", v)]) ∧ ∀ base : Heap, K.In base → base.Ns mainGlobals mg → FnG l.prog w K mg base CX0 9 fa fd ["_law_script"] (sp_law K) := by
  have e := hfa.symm.trans (PySem.W.mg_of X G a_law)
  cases e
  have FD_trail_after : FunD K "trail_after" "trail_after" (defArgs s_trail_after) (defBody s_trail_after) (defScope s_trail_after) [] [("start", V.non)] f_trail_after _ := ⟨⟨_, _, _, _, _, _, _, _, _, _, rfl, l_trail_after, c_trail_after, .inl ⟨rfl, rfl⟩, .inr ⟨kD_trail_after, rfl, fun q hq => by cases hq with | head => exact ⟨_, w_trail_after, rfl⟩ | tail _ h => cases h⟩⟩, k_trail_after⟩
  obtain ⟨ds_trail_after, dv_trail_after, bd_trail_after⟩ := FunD.binds0 (ps := ["visits", "start"]) FD_trail_after 1 (fun z => nomatch z) rfl fun D doc pm an cdv ct us ks hu hk => match us, ks, hu, hk with | [u0], [k0], _, _ => ⟨_, _, _, _, _, _, rfl, rfl, rfl⟩
  let T : Top K mg := {
    a__law_pool := f__law_pool, d__law_pool := _, F__law_pool := fun_mk l__law_pool c__law_pool k__law_pool, g__law_pool := PySem.W.mg_of X G a__law_pool,
    b__law_pool := (fun_mk (st := s__law_pool) l__law_pool c__law_pool k__law_pool).binds (ps := ["_law_script", "_law_k"]) fun _ _ _ _ _ _ us hl => match us, hl with | [_, _], _ => rfl,
    a__law_draw := f__law_draw, d__law_draw := _, F__law_draw := fun_mk l__law_draw c__law_draw k__law_draw, g__law_draw := PySem.W.mg_of X G a__law_draw,
    b__law_draw := (fun_mk (st := s__law_draw) l__law_draw c__law_draw k__law_draw).binds (ps := ["_law_pool_here", "_law_many"]) fun _ _ _ _ _ _ us hl => match us, hl with | [_, _], _ => rfl,
    a__law_line := f__law_line, d__law_line := _, F__law_line := fun_mk l__law_line c__law_line k__law_line, g__law_line := PySem.W.mg_of X G a__law_line,
    b__law_line := (fun_mk (st := s__law_line) l__law_line c__law_line k__law_line).binds (ps := ["_law_pool_here", "_law_script"]) fun _ _ _ _ _ _ us hl => match us, hl with | [_, _], _ => rfl,
    a__law_some := f__law_some, d__law_some := _, F__law_some := fun_mk l__law_some c__law_some k__law_some, g__law_some := PySem.W.mg_of X G a__law_some,
    b__law_some := (fun_mk (st := s__law_some) l__law_some c__law_some k__law_some).binds (ps := ["_law_pool_here", "_law_most"]) fun _ _ _ _ _ _ us hl => match us, hl with | [_, _], _ => rfl,
    a_is_int := f_is_int, d_is_int := _, F_is_int := fun_mk l_is_int c_is_int k_is_int, g_is_int := PySem.W.mg_of X G a_is_int,
    b_is_int := (fun_mk (st := s_is_int) l_is_int c_is_int k_is_int).binds (ps := ["value"]) fun _ _ _ _ _ _ us hl => match us, hl with | [_], _ => rfl,
    a_is_between := f_is_between, d_is_between := _, F_is_between := fun_mk l_is_between c_is_between k_is_between, g_is_between := PySem.W.mg_of X G a_is_between,
    b_is_between := (fun_mk (st := s_is_between) l_is_between c_is_between k_is_between).binds (ps := ["value", "low", "high"]) fun _ _ _ _ _ _ us hl => match us, hl with | [_, _, _], _ => rfl,
    a_are_pages := f_are_pages, d_are_pages := _, F_are_pages := fun_mk l_are_pages c_are_pages k_are_pages, g_are_pages := PySem.W.mg_of X G a_are_pages,
    b_are_pages := (fun_mk (st := s_are_pages) l_are_pages c_are_pages k_are_pages).binds (ps := ["value", "many"]) fun _ _ _ _ _ _ us hl => match us, hl with | [_, _], _ => rfl,
    a_is_visits := f_is_visits, d_is_visits := _, F_is_visits := fun_mk l_is_visits c_is_visits k_is_visits, g_is_visits := PySem.W.mg_of X G a_is_visits,
    b_is_visits := (fun_mk (st := s_is_visits) l_is_visits c_is_visits k_is_visits).binds (ps := ["value"]) fun _ _ _ _ _ _ us hl => match us, hl with | [_], _ => rfl,
    a_check_visits := f_check_visits, d_check_visits := _, F_check_visits := fun_mk l_check_visits c_check_visits k_check_visits, g_check_visits := PySem.W.mg_of X G a_check_visits,
    b_check_visits := (fun_mk (st := s_check_visits) l_check_visits c_check_visits k_check_visits).binds (ps := ["visits"]) fun _ _ _ _ _ _ us hl => match us, hl with | [_], _ => rfl,
    a_are_different_pages := f_are_different_pages, d_are_different_pages := _, F_are_different_pages := fun_mk l_are_different_pages c_are_different_pages k_are_different_pages, g_are_different_pages := PySem.W.mg_of X G a_are_different_pages,
    b_are_different_pages := (fun_mk (st := s_are_different_pages) l_are_different_pages c_are_different_pages k_are_different_pages).binds (ps := ["value", "many"]) fun _ _ _ _ _ _ us hl => match us, hl with | [_, _], _ => rfl,
    a_is_trail := f_is_trail, d_is_trail := _, F_is_trail := fun_mk l_is_trail c_is_trail k_is_trail, g_is_trail := PySem.W.mg_of X G a_is_trail,
    b_is_trail := (fun_mk (st := s_is_trail) l_is_trail c_is_trail k_is_trail).binds (ps := ["value"]) fun _ _ _ _ _ _ us hl => match us, hl with | [_], _ => rfl,
    a_check_trail := f_check_trail, d_check_trail := _, F_check_trail := fun_mk l_check_trail c_check_trail k_check_trail, g_check_trail := PySem.W.mg_of X G a_check_trail,
    b_check_trail := (fun_mk (st := s_check_trail) l_check_trail c_check_trail k_check_trail).binds (ps := ["trail"]) fun _ _ _ _ _ _ us hl => match us, hl with | [_], _ => rfl,
    a_visited := f_visited, d_visited := _, F_visited := fun_mk l_visited c_visited k_visited, g_visited := PySem.W.mg_of X G a_visited,
    b_visited := (fun_mk (st := s_visited) l_visited c_visited k_visited).binds (ps := ["trail", "page"]) fun _ _ _ _ _ _ us hl => match us, hl with | [_, _], _ => rfl,
    a_trail_after := f_trail_after, d_trail_after := _, F_trail_after := FD_trail_after, g_trail_after := PySem.W.mg_of X G a_trail_after, ds_trail_after := ds_trail_after, dv_trail_after := dv_trail_after, b_trail_after := bd_trail_after,
    kn_trail_after := ⟨fun s us ws _ h1 h2 => match us, ws, h1, h2 with | [u0], [w0], _, _ => .of_eq rfl, fun r1 r2 => r1.append r2⟩,
    a__law_after := f__law_after, d__law_after := _, F__law_after := fun_mk l__law_after c__law_after k__law_after, g__law_after := PySem.W.mg_of X G a__law_after,
    b__law_after := (fun_mk (st := s__law_after) l__law_after c__law_after k__law_after).binds (ps := ["_law_row", "_law_spot"]) fun _ _ _ _ _ _ us hl => match us, hl with | [_, _], _ => rfl,
    a__law_trails := f__law_trails, d__law_trails := _, F__law_trails := fun_mk l__law_trails c__law_trails k__law_trails, g__law_trails := PySem.W.mg_of X G a__law_trails,
    b__law_trails := (fun_mk (st := s__law_trails) l__law_trails c__law_trails k__law_trails).binds (ps := ["_law_row", "_law_line_here"]) fun _ _ _ _ _ _ us hl => match us, hl with | [_, _], _ => rfl,
    a__law_right := f__law_right, d__law_right := _, F__law_right := fun_mk l__law_right c__law_right k__law_right, g__law_right := PySem.W.mg_of X G a__law_right,
    b__law_right := (fun_mk (st := s__law_right) l__law_right c__law_right k__law_right).binds (ps := ["_law_line_here", "_law_row"]) fun _ _ _ _ _ _ us hl => match us, hl with | [_, _], _ => rfl,
    a_law := fa, d_law := _, F_law := fun_mk l_law c_law k_law, g_law := PySem.W.mg_of X G a_law,
    b_law := (fun_mk (st := s_law) l_law c_law k_law).binds (ps := ["_law_script"]) fun _ _ _ _ _ _ us hl => match us, hl with | [_], _ => rfl,
    t_PAGES := t_PAGES, g_PAGES := PySem.W.mg_of X G v_PAGES,
    t_MOST_VISITS := t_MOST_VISITS, g_MOST_VISITS := PySem.W.mg_of X G v_MOST_VISITS,
    n_len := PySem.W.mg_none_of X G z_len,
    n_max := PySem.W.mg_none_of X G z_max,
    n_range := PySem.W.mg_none_of X G z_range,
    n_list := PySem.W.mg_none_of X G z_list,
    n_isinstance := PySem.W.mg_none_of X G z_isinstance,
    n_int := PySem.W.mg_none_of X G z_int,
    n_bool := PySem.W.mg_none_of X G z_bool,
    n_all := PySem.W.mg_none_of X G z_all,
    n_set := PySem.W.mg_none_of X G z_set,
    n_repr := PySem.W.mg_none_of X G z_repr,
    n_min := PySem.W.mg_none_of X G z_min,
    kb_trail_after_visits_start := ⟨fun s zs ws _ r hl => match zs, ws, r, hl with | [z0, z1], [w0, w1], .cons r0 (.cons r1 (.nil)), _ => ⟨[w0, w1], .cons r0 (.cons r1 (.nil)), .of_eq rfl⟩⟩,
    kb_trail_after_start_visits := ⟨fun s zs ws _ r hl => match zs, ws, r, hl with | [z0, z1], [w0, w1], .cons r0 (.cons r1 (.nil)), _ => ⟨[w1, w0], .cons r1 (.cons r0 (.nil)), .of_eq rfl⟩⟩ }
  refine ⟨T.d_law, fun s v => .of_eq rfl, fun base _ _ => ?_⟩
  have G__law_pool := ok__law_pool (P := l.prog) (w := w) (base := base) T 
  have G__law_draw := ok__law_draw (P := l.prog) (w := w) (base := base) T 
  have G__law_line := ok__law_line (P := l.prog) (w := w) (base := base) T G__law_draw
  have G__law_some := ok__law_some (P := l.prog) (w := w) (base := base) T G__law_draw
  have G_is_int := ok_is_int (P := l.prog) (w := w) (base := base) T 
  have G_is_between := ok_is_between (P := l.prog) (w := w) (base := base) T G_is_int
  have G_are_pages := ok_are_pages (P := l.prog) (w := w) (base := base) T G_is_between
  have G_is_visits := ok_is_visits (P := l.prog) (w := w) (base := base) T G_are_pages
  have G_check_visits := ok_check_visits (P := l.prog) (w := w) (base := base) T G_is_visits
  have G_are_different_pages := ok_are_different_pages (P := l.prog) (w := w) (base := base) T G_are_pages
  have G_is_trail := ok_is_trail (P := l.prog) (w := w) (base := base) T G_are_different_pages
  have G_check_trail := ok_check_trail (P := l.prog) (w := w) (base := base) T G_is_trail
  have G_visited := ok_visited (P := l.prog) (w := w) (base := base) T 
  have G_trail_after := ok_trail_after (P := l.prog) (w := w) (base := base) T G_check_visits G_check_trail G_visited
  have G__law_after := ok__law_after (P := l.prog) (w := w) (base := base) T 
  have G__law_trails := ok__law_trails (P := l.prog) (w := w) (base := base) T G__law_after
  have G__law_right := ok__law_right (P := l.prog) (w := w) (base := base) T G_trail_after G__law_trails
  have G_law := ok_law (P := l.prog) (w := w) (base := base) T G__law_pool G__law_line G__law_some G__law_right
  exact G_law
end
end Vf
open PySem PySem.W PyProof.Rows
set_option maxHeartbeats 0 in
theorem PySem.Challenge.cw_breadcrumbs_k73_trails_after_visits_holds : PySem.Challenge.rw_breadcrumbs_k73_trails_after_visits.Holds := by
  w_on; o_law; k_head; (case hw => w_witness2)
  k_fill
  refine Vf.walk_ofG (l := PySem.Challenge.rw_breadcrumbs_k73_trails_after_visits) (n := 63) (k := 9) (x := "_law_script") (sp := Vf.sp_law) rfl (by decide) rfl ⟨rfl, by decide, by decide⟩ (fun w h Y => PySem.W.kIn_of Y) ?F (fun K H a ns hl hS one => ⟨a, ns, rfl, hS, hl, one, fun _ => rfl⟩)
  case F =>
    intro w mg fa h KX G hmg
    refine' Vf.all_mk KX G hmg ?a__law_pool ?l__law_pool ?c__law_pool ?k__law_pool ?a__law_draw ?l__law_draw ?c__law_draw ?k__law_draw ?a__law_line ?l__law_line ?c__law_line ?k__law_line ?a__law_some ?l__law_some ?c__law_some ?k__law_some ?a_is_int ?l_is_int ?c_is_int ?k_is_int ?a_is_between ?l_is_between ?c_is_between ?k_is_between ?a_are_pages ?l_are_pages ?c_are_pages ?k_are_pages ?a_is_visits ?l_is_visits ?c_is_visits ?k_is_visits ?a_check_visits ?l_check_visits ?c_check_visits ?k_check_visits ?a_are_different_pages ?l_are_different_pages ?c_are_different_pages ?k_are_different_pages ?a_is_trail ?l_is_trail ?c_is_trail ?k_is_trail ?a_check_trail ?l_check_trail ?c_check_trail ?k_check_trail ?a_visited ?l_visited ?c_visited ?k_visited ?a_trail_after ?l_trail_after ?c_trail_after ?k_trail_after ?w_trail_after ?a__law_after ?l__law_after ?c__law_after ?k__law_after ?a__law_trails ?l__law_trails ?c__law_trails ?k__law_trails ?a__law_right ?l__law_right ?c__law_right ?k__law_right ?a_law ?l_law ?c_law ?k_law ?v_PAGES ?v_MOST_VISITS ?z_len ?z_max ?z_range ?z_list ?z_isinstance ?z_int ?z_bool ?z_all ?z_set ?z_repr ?z_min
    (case a__law_pool => k_is); (case l__law_pool => k_is); (case c__law_pool => k_is); (case k__law_pool => k_is); (case a__law_draw => k_is); (case l__law_draw => k_is); (case c__law_draw => k_is); (case k__law_draw => k_is); (case a__law_line => k_is); (case l__law_line => k_is); (case c__law_line => k_is); (case k__law_line => k_is); (case a__law_some => k_is); (case l__law_some => k_is); (case c__law_some => k_is); (case k__law_some => k_is); (case a_is_int => k_is); (case l_is_int => k_is); (case c_is_int => k_is); (case k_is_int => k_is); (case a_is_between => k_is); (case l_is_between => k_is); (case c_is_between => k_is); (case k_is_between => k_is); (case a_are_pages => k_is); (case l_are_pages => k_is); (case c_are_pages => k_is); (case k_are_pages => k_is); (case a_is_visits => k_is); (case l_is_visits => k_is); (case c_is_visits => k_is); (case k_is_visits => k_is); (case a_check_visits => k_is); (case l_check_visits => k_is); (case c_check_visits => k_is); (case k_check_visits => k_is); (case a_are_different_pages => k_is); (case l_are_different_pages => k_is); (case c_are_different_pages => k_is); (case k_are_different_pages => k_is); (case a_is_trail => k_is); (case l_is_trail => k_is); (case c_is_trail => k_is); (case k_is_trail => k_is); (case a_check_trail => k_is); (case l_check_trail => k_is); (case c_check_trail => k_is); (case k_check_trail => k_is); (case a_visited => k_is); (case l_visited => k_is); (case c_visited => k_is); (case k_visited => k_is); (case a_trail_after => k_is); (case l_trail_after => k_is); (case c_trail_after => k_is); (case k_trail_after => k_is); (case w_trail_after => k_is); (case a__law_after => k_is); (case l__law_after => k_is); (case c__law_after => k_is); (case k__law_after => k_is); (case a__law_trails => k_is); (case l__law_trails => k_is); (case c__law_trails => k_is); (case k__law_trails => k_is); (case a__law_right => k_is); (case l__law_right => k_is); (case c__law_right => k_is); (case k__law_right => k_is); (case a_law => k_is); (case l_law => k_is); (case c_law => k_is); (case k_law => k_is); (case v_PAGES => k_is); (case v_MOST_VISITS => k_is); (case z_len => k_is); (case z_max => k_is); (case z_range => k_is); (case z_list => k_is); (case z_isinstance => k_is); (case z_int => k_is); (case z_bool => k_is); (case z_all => k_is); (case z_set => k_is); (case z_repr => k_is); (case z_min => k_is)
