import PyProof.Rows.All
import Wide.All
import OpenK.AllK
import Wide.FinOn
import KE.KStateDown
import KE.KExcIs
import KE.KIsAll
import HandS.ForMost
import HandS.ForExc
import HandS.ExcInit
import HandS.ExcValue
import HandS.IsInst
import HandS.Wide
import HandS.Defaults
import HandS.Small
import HandS.Head0
import HandS.Head1
import HandS.Head2
import HandS.HeadEnd
import HandS.HeadHook1
import HandS.HeadHook2
import HandS.StrMore
import KE.IntTextLaws
import HandS.FStr
import HandS.MakeKwOnly
import HandS.Walk
import HandS.NoneIn
import HandS.WordsExc
import HandS.ExcField
import HandS.SlotsOwn
import PyProof.NeKinds
import KE.KOpsOwn
import PySem.Challenge.RW_whoseday_k01_entries_are_read
set_option Elab.async false
set_option maxHeartbeats 4000000
/-! Errors as values: made, kept, read, asked for their class. -/
namespace Wd
open PySem PySem.Spec PyProof.Rows L2
section
variable {X : Cx} {x f : Str} {e : Expr} {es : List Expr} {te : TE} {ta : TA} {p pos : Pos}
/-- what is asked of a class of errors with an __init__ of its own, when one is made and kept -/
def tErr (C : Addr) (sp : Sp) (ta : TA) : TE := fun σ H Q =>
  ta σ H fun vs H1 => vs.length ≤ 1000 ∧
    ∀ a, H1 a = none → sp (.ref a :: vs) (upd H1 a (exo a C none)) (fun v H2 => v = .non ∧ Q (.ref a) H2) (fun _ _ _ => False)
theorem pe_err {CX : CXT} {C fI : Addr} {k : Nat} {fd : FuncData} {ps : List Str} {sp : Sp} (T : OexC X.K C)
    (iC : PySem.W.findIn X.K (.ref C) "__init__" = some (some (.ref fI)))
    (tI : PySem.W.typeIn X.K (.ref fI) = some (.type "function"))
    (G : FnOk X.prog X.w X.K X.mg X.base CX k fI fd ps sp) (hr : Room (k + 1) X.A) (hb : Binds X.K fd ps [])
    (hx : Passes CX X (fun _ _ _ => False)) (hg : Gl X x) (hm : X.mg x = some (.ref C)) (ha : PA X (e :: es) ta)
    (hdb : (x == ("__debug__" : Str)) = false := by decide)
    (he : starEach (e :: es) X.env = (false, eval e X.env) :: starEach es X.env := by rfl)
    (hpl : (backTo pos (starEach es X.env)).any (·.1) = false := by rfl) :
    PE X (.Call (.Name x p) (e :: es) [] pos) (tErr C sp ta) := by
  constructor
  intro pins s σ H Q I h
  obtain ⟨nm, q, N, bs, bm, sn, sub, ab, col, dd, k0, k1, k2, k3, k5, lC, tail⟩ := T.cls
  apply wpAny_Call_Name_kw
  apply ld_glob I hg hm _ hdb
  refine PySem.W.callWith_K (h₀ := X.base) I.ok.mod.kin T.kC
    (thn (ha.run pos pins s σ H _ I h) fun us s1 ⟨vs, H1, I1, rv, small, q1⟩ => ?_) he hpl
  refine ⟨I1.kIn, ?_⟩
  show wpAny _ _ (call (.ref C) us) _ _ _
  obtain ⟨hp, g, dr, tk, os⟩ := s1
  have up : hp.objs.size ≤ hp.objs.size + 1 := Nat.le_succ _
  have hn : H1 (hp.objs.size + 1) = none := I1.hok.fresh up
  have hq := q1 (hp.objs.size + 1) hn
  have there : ((hp.push (PySem.W.kdv_tup us)).push (PySem.HandSPX.excO C hp.objs.size)).get? (hp.objs.size + 1)
      = some (PySem.HandSPX.excO C hp.objs.size) := by heap_get
  have I2 := I1.laid (t' := tk) (a := hp.objs.size + 1) (o := exo (hp.objs.size + 1) C none)
    (h' := (hp.push (PySem.W.kdv_tup us)).push (PySem.HandSPX.excO C hp.objs.size))
    (fun b o z => Heap.get?_push_of_some _ (Heap.get?_push_of_some _ z)) up (exo_ok there)
  have r2 : Vals (V.ref (hp.objs.size + 1) :: vs) (Value.ref (hp.objs.size + 1) :: us) := .cons rfl rv
  have hl : (Value.ref (hp.objs.size + 1) :: us ++ []).length = ps.length := by
    rw [List.append_nil]
    have z := r2.length
    rw [G.len _ _ _ _ hq] at z
    exact z.symm
  have fits : us.length ≤ sizeLine := by
    rw [← Paired.length rv, sizeLine_eq]
    omega
  have bd := hb ⟨(hp.push (PySem.W.kdv_tup us)).push (PySem.HandSPX.excO C hp.objs.size), g, dr, tk, os⟩
    (Value.ref (hp.objs.size + 1) :: us) I2.kIn hl
  rw [List.append_nil] at bd
  apply wpAny_call
  refine PySem.HandSPX.call_own F.excBase_ValueError (fun Y => PySem.HandSPX.refsVE_contains Y bm tail)
    (I1.kIn _ _ lC) (PySem.W.looks_findIn I1.kIn iC) (fun self => PySem.W.bind_fn I1.kIn self tI) fits
    (codeAny_mono (G.run _ X.stack _ _ ⟨Value.ref (hp.objs.size + 1) :: us, []⟩ (Value.ref (hp.objs.size + 1) :: us)
      _ _ (fun _ _ _ => False) (hr.make C us []) (I2.env0.make C us []) bd r2 hq) ?_)
  intro r s' z
  cases r with
  | error er => exact hx pins σ _ _ er s' I2 z
  | ok fl =>
    cases fl with
    | next => exact False.elim z
    | brk => exact False.elim z
    | cont => exact False.elim z
    | ret u =>
      obtain ⟨v, H3, I3, rv3, ev, q3⟩ := I2.after z
      subst ev
      exact ⟨rv3, V.ref (hp.objs.size + 1), H3, I3, rfl, q3⟩
/-- an error of a class without an __init__ of its own -/
def tErr0 (C : Addr) : TE := fun _ H Q => ∀ a, H a = none → Q (.ref a) (upd H a (exo a C none))
theorem pe_err0 {C : Addr} (q : PySem.W.excIn X.K C He.veBase "ValueError.__new__" = true)
    (gC : X.mg x = some (.ref C)) (kC : PySem.W.keepIn X.K (.ref C) = true) (hg : Gl X x)
    (hdb : (x == ("__debug__" : Str)) = false := by decide) : PE X (.Call (.Name x p) [] [] pos) (tErr0 C) := by
  constructor
  intro pins s σ H Q I h
  apply wpAny_Call_Name_kw
  apply ld_glob I hg gC _ hdb
  refine PySem.W.callWith_K0 I.kIn kC ?_
  show wpAny _ _ (call (.ref C) []) _ _ _
  obtain ⟨bm, N, nm, qn, bs, hdct, sn, sub, ab, col, dd, k0, k1, k2, k3, k5, mN, hC, hN, hni, T⟩ := exc_obj I.kIn q
  refine wpAny_call_exc_subT F.excBase_ValueError T hC hN hni (fun h' a hm => ?_) (Nat.zero_le _)
  have hn : H a = none := I.hok.gone hm.new
  obtain ⟨t, ht, _, _⟩ := hm.there
  exact ⟨.ref a, _, I.laidN hm.keeps hm.new hn (exo_ok ht), rfl, h a hn⟩
/-- what the class at C says, so that its errors may be read and asked -/
structure ErrC (K : PySem.W.Frag) (C : Addr) : Prop where
  isC : (PySem.W.clsIn K C).isSome = true
  ga : PySem.W.findIn K (.ref C) "__getattribute__" = some (some (.builtin "BaseException.__getattribute__"))
  gg : PySem.W.findIn K (.ref C) "__getattr__" = some none
  be : PySem.W.subIn K (.ref C) (.type "BaseException") = some true
  hd : PySem.W.hasDictIn K C = true
  cc : PySem.W.findIn K (.ref C) "__class__" = some (some (.builtin "object.__class__"))
  cg : PySem.W.specialIn K (.builtin "object.__class__") "__get__" = some (some (.builtin "getset_descriptor.__get__"))
  ct : PySem.W.takesIn K (.builtin "object.__class__") = some true
  ob : PySem.W.mroIn K C (.type "object") = some true
/-- at a an error of the class at C, with a dict of these fields, or with none -/
def ErrAt (C a : Addr) (fs : List (Str × V)) (H : Hp) : Prop :=
  (H a = some (exo a C none) ∧ fs = []) ∨ ∃ d, H a = some (exo a C (some d)) ∧ H d = some (exd d fs)
theorem ErrAt.inst {C a : Addr} {fs : List (Str × V)} {pins : List (Addr × Obj)} {σ : L2.St} {H : Hp} {s : Shared} (I : L2.Inv X pins σ H s) (h : ErrAt C a fs H) :
    ∃ ox od, PySem.W.InstAt s.heap a ox C od ∧ ∀ v, fs.lookup f = some v → ∃ o u, od = some o ∧ PySem.W.lookIn f o = some (some u) ∧ RelV v u := by
  rcases h with ⟨ha, rfl⟩ | ⟨d, ha, hd⟩
  · obtain ⟨t1, ho⟩ := exo_at I.hok ha
    exact ⟨_, none, ⟨ho, rfl, rfl, True.intro⟩, fun v z => nomatch z⟩
  · obtain ⟨t1, ho⟩ := exo_at I.hok ha
    obtain ⟨mA, hns, rel⟩ := exd_at I.hok hd
    obtain ⟨od, hod, hl⟩ := lookIn_ns hns
    refine ⟨_, some od, ⟨ho, rfl, rfl, hod⟩, fun v z => ?_⟩
    have r := rel f
    rw [z] at r
    cases hm : mA f with
    | none =>
      rw [hm] at r
      exact r.elim
    | some u =>
      rw [hm] at r
      exact ⟨od, u, rfl, by rw [hl, hm], r⟩
/-- e.f of an error that is kept -/
def tErrF (K : PySem.W.Frag) (f : Str) (te : TE) : TE := fun σ H Q =>
  te σ H fun x H1 => ∃ a C fs v, x = .ref a ∧ ErrC K C ∧ PySem.W.findIn K (.ref C) f = some none ∧ ErrAt C a fs H1 ∧ fs.lookup f = some v ∧ Q v H1
theorem pe_errF (he : PE X e te) (hb : attributeBase e f X.env (eval e X.env) = eval e X.env := by rfl) :
    PE X (.Attribute e f pos) (tErrF X.K f te) := by
  constructor
  intro pins s σ H Q I h
  apply attr_of hb
  refine thn (he.run pins s σ H _ I h) fun w s1 ⟨y, H1, I1, ry, a, C, fs, v, ex, T, hno, at_, hv, q⟩ => ?_
  subst ex
  obtain rfl : w = Value.ref a := ry
  obtain ⟨ox, od, J, look⟩ := at_.inst (f := f) I1
  obtain ⟨o, u, rfl, lu, ru⟩ := look v hv
  exact PySem.HandSPX.exc_get I1.kIn J T.ga T.gg T.be (PySem.W.findObj_own T.hd hno rfl lu) (handed_of ru)
    ⟨v, H1, I1.tok _, ru, q⟩
/-- isinstance(e, c) of an error that is kept -/
def rErrIs (K : PySem.W.Frag) : List V → Hp → VK → Prop := fun xs H Q =>
  ∃ (a C : Addr) (fs : List (Str × V)) (c : V) (u : Value) (b : Bool), xs = [.ref a, c] ∧ ErrC K C ∧ ErrAt C a fs H ∧ ClsV c u ∧
    PySem.W.kitOne K (.ref C) u = some b ∧ Q (.bl b) H
theorem call_errIs : CallR X (.builtin "isinstance") (rErrIs X.K) := by
  intro pins s σ H xs us Q I r h
  obtain ⟨a, C, fs, c, u, b, rfl, T, at_, k, e, q⟩ := h
  obtain ⟨u1, u2, rfl, r1, r2⟩ := vals2 r
  obtain rfl : u1 = Value.ref a := r1
  obtain rfl := k.eq r2
  obtain ⟨ox, od, J, _⟩ := at_.inst (f := "x") I
  exact PySem.W.kia_one (PySem.W.kitx_exc T.isC T.ga T.gg T.be T.cc T.cg T.ct T.ob) I.kIn J e (fun z => nomatch z)
    fun tk => ⟨.bl b, H, I.tok tk, rfl, q⟩
end
end Wd

set_option maxHeartbeats 4000000
namespace Wd
open PySem PySem.Spec PyProof.Rows L2
section
variable {X : Cx}
theorem bound_ne {M : Model} {A : Around} {E : Value → Shared → Prop} {s : Shared} {K : PySem.W.Frag} {a C : Addr} {ox : Obj} {od : Option Obj} {args : List Value} {Q : Option Value → Shared → Prop}
    (kin : K.In s.heap) (J : PySem.W.InstAt s.heap a ox C od)
    (hn : PySem.W.findIn K (.ref C) "__ne__" = some (some (.builtin "object.__ne__")))
    (h : wpAny M A (call (.builtin "object.__ne__") (.ref a :: args)) (fun v => Q (some v)) E s) :
    wpAny M A (callSpecialIfBound? (.ref a) "__ne__" args) Q E s := by
  have last : wpAny M A (call (.builtin "object.__ne__") ([.ref a] ++ args) >>= fun v => pure (some v)) Q E s :=
    wpAny_bind (wpAny_mono h (fun _ _ z => wpAny_pure z) fun _ _ z => z)
  unfold callSpecialIfBound? bindSpecialIfBound?
  refine wpAny_holding ?_
  refine wpAny_bind (wpAny_bind (wpAny_bind ?_))
  refine J.type.here ((PySem.W.looks_findIn kin hn).here ?_)
  refine wpAny_bind (wpAny_askSetting (wpAny_ite ?_))
  split
  · refine wpAny_bind (wpAny_of_eq (PySem.F.cmp_object.ne.bind _) ?_)
    exact wpAny_pure (by exact last)
  · refine wpAny_tryCatch (wpAny_bind (wpAny_of_eq (PySem.F.cmp_object.ne.bind _) ?_))
    exact wpAny_pure (by exact last)
/-- x != y of two instances of one class that has an == of its own -/
def rNeO (C : Addr) (sp : Sp) : R2 := fun x y H Q =>
  ∃ a b dx dy fs gs, x = .ref a ∧ y = .ref b ∧ H a = some (.ins C dx fs) ∧ H b = some (.ins C dy gs) ∧
    sp [.ref a, .ref b] H (fun v H' => ∃ t, v = .bl t ∧ Q (.bl (!t)) H') (fun _ _ _ => False)
theorem op_neO {CX : CXT} {C f : Addr} {k : Nat} {fd : FuncData} {ps : List Str} {sp : Sp}
    (G : FnOk X.prog X.w X.K X.mg X.base CX k f fd ps sp) (hr : Room (k + 2) X.A)
    (he : PySem.W.findIn X.K (.ref C) "__eq__" = some (some (.ref f)))
    (hn : PySem.W.findIn X.K (.ref C) "__ne__" = some (some (.builtin "object.__ne__")))
    (hm : PySem.W.mroIn X.K C (.type "object") = some true) (hf : PySem.W.isFn X.K (.ref f) = true)
    (hb : Binds X.K fd ps []) (hx : Passes CX X (fun _ _ _ => False)) : OpR X (compareOp .NotEq) (rNeO C sp) := by
  intro pins s σ H x y v u Q I rx ry h
  obtain ⟨a, b, dx, dy, fs, gs, rfl, rfl, ha, hb', q⟩ := h
  obtain rfl : v = Value.ref a := rx
  obtain rfl : u = Value.ref b := ry
  obtain ⟨mA, J, _⟩ := ins_get I.hok ha
  obtain ⟨mB, J', _⟩ := ins_get I.hok hb'
  obtain ⟨od, J, _⟩ := J.look
  obtain ⟨od', J', _⟩ := J'.look
  have env : Env0 X.prog X.w X.K X.mg X.base X.A.in1 X.stack s H := by
    have e := I.env0
    exact ⟨e.frames, e.mod, e.bs, e.bsz, e.funs, e.frf, e.hok, e.bare⟩
  have hl := G.len _ _ _ _ q
  have bd := hb s [.ref a, .ref b] I.kIn (by simpa using hl)
  rw [List.append_nil] at bd
  have inner : wpAny (model X.prog X.w) X.A.in1 (call (.ref f) [.ref a, .ref b])
      (fun r s' => ∃ t, r = .bool t ∧ EP X pins σ Q (.bool (!t)) s') X.xe s := by
    refine wpAny_call (codeAny_mono (G.run X.A.in1 X.stack s H ⟨[.ref a, .ref b], []⟩ [.ref a, .ref b] [.ref a, .ref b]
      _ _ (hr.mono (by omega) : Room (k + 1) X.A).in1 env bd (.cons rfl (.cons rfl .nil)) q) ?_)
    intro r s' z
    cases r with
    | error er => exact hx pins σ H s er s' I z
    | ok fl =>
      cases fl with
      | next => exact False.elim z
      | brk => exact False.elim z
      | cont => exact False.elim z
      | ret w =>
        obtain ⟨z1, H2, I2, r2, t, rfl, q2⟩ := I.after z
        obtain rfl : w = Value.bool t := r2
        exact ⟨t, rfl, .bl (!t), H2, I2, rfl, q2⟩
  have hu1 : X.A.in1.units < cLine := ((hr.mono (by omega) : Room 1 X.A).in1).units0
  have one : wpAny (model X.prog X.w) X.A (tryCompare (.ref a) "__ne__" (.ref b))
      (fun r s' => ∃ t, r = some (.bool t) ∧ EP X pins σ Q (.bool t) s') X.xe s := by
    unfold tryCompare
    refine wpAny_bind (bound_ne I.kIn J hn ?_)
    refine wpAny_call (codeAny_call_builtin PySem.F.cmp_object.ne.plain PySem.F.cmpEntry_ne ?_)
    refine PySem.W.check_slot PySem.F.cmpKind_ne PySem.F.cmpSplit_ne (J.type.andThen (PySem.W.looks_mroIn I.kIn hm)) (PySem.F.cmpArgs_ne _ _) ?_
    unfold Builtin.«object.__ne__»
    repeat (first
      | with_reducible refine wpAny_cRoomFor hu1 ?_
      | (refine wpAny_bind (m := callSpecialIfBound? (.ref a) (PySem.Str.ofString "__eq__") [.ref b])
          (PySem.W.ifBound_K I.kIn J he hf (wpAny_mono inner (fun r s' z => ?_) fun _ _ z => z))
         obtain ⟨t, rfl, z⟩ := z)
      | wp_step)
    exact ⟨!t, rfl, z⟩
  have same : PySem.W.notFirst X.K C (.ref C) = true := by simp [PySem.W.notFirst]
  show wpAny (model X.prog X.w) X.A (richCompare .NotEq (.ref a) (.ref b)) (EP X pins σ Q) X.xe s
  unfold richCompare
  simp only [oneThing_ref]
  refine wpAny_holding (wpAny_bind (wpAny_cRoomFor hr.units0 ?_))
  rw [cmpInfo_NotEq]
  dsimp only
  refine wpAny_bind (J.type.here (wpAny_bind (J'.type.here ?_)))
  rw [show (Value.ref C != Value.ref C) = false from by simp]
  simp only [Bool.false_eq_true, if_false]
  refine wpAny_bind (wpAny_pure ?_)
  simp only [Bool.false_eq_true, if_false]
  refine wpAny_bind (wpAny_mono one (fun r s' z => ?_) fun _ _ z => z)
  obtain ⟨t, rfl, z⟩ := z
  first | exact wpAny_pure z | exact wpAny_pure (wpAny_pure z)
end
end Wd

set_option maxHeartbeats 4000000
/-! Numbers and names in texts. -/
namespace Wt
open PySem TL NumText Builtin.Str PySem.StrLaws
/-- the figures of a word: without a sign - ahead -/
def figL : List Nat → List Nat
  | [] => []
  | c :: r => if c = 45 then r else c :: r
def fig (x : Str) : Str := Txt.removeprefix x "-"
theorem dash : tl ("-" : Str) = [45] := by decide +kernel
theorem zero1 : tl ("0" : Str) = [48] := by decide +kernel
theorem fig_tl (x : Str) : tl (fig x) = figL (tl x) := by
  have hx := len_tl x
  have e : subAt x "-" 0 = true ↔ ∃ r, tl x = 45 :: r := by
    rw [subAt_eq, List.drop_zero, show ("-" : Str).length = 1 from by decide +kernel]
    show ((tl x).take 1 == tl ("-" : Str)) = true ↔ _
    rw [dash]
    cases h : tl x with
    | nil => simp
    | cons c r => simp
  unfold fig Txt.removeprefix
  by_cases h : subAt x "-" 0 = true
  · obtain ⟨r, hr⟩ := e.mp h
    rw [if_pos h]
    have hl : x.length = r.length + 1 := by rw [hx, hr, List.length_cons]
    rw [show ("-" : Str).length = 1 from by decide +kernel]
    show tl (if (x.length - 1 == x.length) = true then x else strSub x 1 x.length) = _
    rw [if_neg (by rw [beq_iff_eq]; omega), tl_strSub_end, hr]
    simp [figL]
  · rw [if_neg h]
    unfold Txt.affix
    cases hr : tl x with
    | nil => rfl
    | cons c r =>
      have hc : c ≠ 45 := fun z => h (e.mpr ⟨r, by rw [hr, z]⟩)
      simp [figL, hc]
def isDig (c : Nat) : Bool := decide (48 ≤ c) && decide (c ≤ 57)
theorem dig128 : ∀ c : Nat, c < 128 → Unicode.isDigit c = isDig c := by decide +kernel
theorem alp128 : ∀ c : Nat, c < 128 → (Unicode.isAlpha c && !(Unicode.isUpper c || Unicode.isTitle c)) = (decide (97 ≤ c) && decide (c ≤ 122)) := by decide +kernel
theorem low128 : ∀ c : Nat, c < 128 → Unicode.isLower c = (decide (97 ≤ c) && decide (c ≤ 122)) := by decide +kernel
theorem all_tl {x : Str} {p : Nat → Bool} : x.cps.all p = (tl x).all p := by rw [← Array.all_toList] <;> rfl
theorem any_tl {x : Str} {p : Nat → Bool} : x.cps.any p = (tl x).any p := by rw [← Array.any_toList] <;> rfl
theorem pos_tl {x : Str} : (decide (x.length > 0)) = !(tl x).isEmpty := by
  rw [len_tl]
  cases tl x <;> simp
theorem digits_ok (f : Str) : (Txt.isascii f && Txt.isdigit f) = true ↔ tl f ≠ [] ∧ AllDigits (tl f) := by
  unfold Txt.isascii Txt.isdigit AllDigits
  rw [all_tl, all_tl, pos_tl]
  simp only [Bool.and_eq_true, List.all_eq_true, decide_eq_true_eq, Bool.not_eq_true', List.isEmpty_eq_false_iff]
  constructor
  · rintro ⟨h1, h2, h3⟩
    refine ⟨h2, fun c hc => ?_⟩
    have := h3 c hc
    rw [dig128 c (h1 c hc)] at this
    simpa [isDig] using this
  · rintro ⟨h1, h2⟩
    refine ⟨fun c hc => ?_, h1, fun c hc => ?_⟩
    · have := h2 c hc
      omega
    · have := h2 c hc
      rw [dig128 c (by omega)]
      simpa [isDig] using this
/-- a word of 1 to 12 letters -/
def nameL (l : List Nat) : Prop := l ≠ [] ∧ l.length ≤ 12 ∧ ∀ c ∈ l, 97 ≤ c ∧ c ≤ 122
theorem names_ok (z : Str) : (Txt.isascii z && (Txt.isalpha z && Txt.islower z)) = true ↔ tl z ≠ [] ∧ ∀ c ∈ tl z, 97 ≤ c ∧ c ≤ 122 := by
  unfold Txt.isascii Txt.isalpha Txt.islower
  rw [all_tl, all_tl, any_tl, any_tl, pos_tl]
  simp only [Bool.and_eq_true, List.all_eq_true, List.any_eq_true, decide_eq_true_eq, Bool.not_eq_true', List.isEmpty_eq_false_iff, List.any_eq_false]
  constructor
  · rintro ⟨h1, ⟨h2, h3⟩, _, h5⟩
    refine ⟨h2, fun c hc => ?_⟩
    have a1 := h3 c hc
    have a2 := h5 c hc
    have a3 := alp128 c (h1 c hc)
    rw [a1] at a3
    have a4 : (Unicode.isUpper c || Unicode.isTitle c) = false := by
      cases e : (Unicode.isUpper c || Unicode.isTitle c) with
      | false => rfl
      | true => exact absurd e a2
    rw [a4] at a3
    have a5 : (decide (97 ≤ c) && decide (c ≤ 122)) = true := a3.symm
    simpa using a5
  · rintro ⟨h1, h2⟩
    have key : ∀ c ∈ tl z, c < 128 ∧ (decide (97 ≤ c) && decide (c ≤ 122)) = true := fun c hc => by
      have := h2 c hc
      exact ⟨by omega, by simpa using this⟩
    refine ⟨fun c hc => (key c hc).1, ⟨h1, fun c hc => ?_⟩, ?_, fun c hc => ?_⟩
    · have a3 := alp128 c (key c hc).1
      rw [(key c hc).2] at a3
      exact (Bool.and_eq_true_iff.mp a3).1
    · obtain ⟨c, r, e⟩ := List.exists_cons_of_ne_nil h1
      have hc : c ∈ tl z := by rw [e]; exact List.mem_cons_self
      exact ⟨c, hc, by rw [low128 c (key c hc).1]; exact (key c hc).2⟩
    · have a3 := alp128 c (key c hc).1
      rw [(key c hc).2] at a3
      have a4 := (Bool.and_eq_true_iff.mp a3).2
      intro e
      rw [e] at a4
      cases a4
/-! ### numbers -/
theorem num_fold : ∀ (cs : List Nat) (a : Nat), 0 < a → AllDigits cs → numL (cs.foldl (fun acc c => acc * 10 + (c - 48)) a) = numL a ++ cs
  | [], a, _, _ => by rw [List.foldl_nil, List.append_nil]
  | c :: r, a, ha, h => by
    have hc := h.head
    rw [List.foldl_cons, num_fold r _ (by omega) h.tail, numL_step (by omega)]
    rw [show (a * 10 + (c - 48)) / 10 = a by omega, show 48 + (a * 10 + (c - 48)) % 10 = c by omega]
    rw [List.append_assoc]
    rfl
/-- figures without a 0 ahead of others -/
def canonL (l : List Nat) : Prop := l ≠ [] ∧ AllDigits l ∧ (l.head? = some 48 → l = [48])
theorem canon_num {l : List Nat} (h : canonL l) : numL (digitsVal l) = l := by
  obtain ⟨h1, h2, h3⟩ := h
  cases l with
  | nil => exact absurd rfl h1
  | cons c r =>
    have hc := h2.head
    by_cases z : c = 48
    · subst z
      have e := h3 rfl
      rw [e]
      decide +kernel
    · unfold digitsVal
      rw [List.foldl_cons, num_fold r _ (by omega) h2.tail, numL_lt (by omega)]
      rw [show 48 + (0 * 10 + (c - 48)) = c by omega]
      rfl
theorem canon_pos {l : List Nat} (h : canonL l) (hz : l ≠ [48]) : 0 < digitsVal l := by
  cases e : digitsVal l with
  | zero =>
    have z := canon_num h
    rw [e] at z
    exact absurd z.symm (by
      have : numL 0 = [48] := by decide +kernel
      rw [this]
      exact hz)
  | succ n => omega
theorem num_canon (n : Nat) : canonL (numL n) := by
  refine ⟨numL_ne n, numL_digits n, ?_⟩
  induction n using Nat.strongRecOn with
  | _ n ih =>
    by_cases h : n < 10
    · rw [numL_lt h]
      intro z
      simp only [List.head?_cons, Option.some.injEq] at z
      rw [z]
    · rw [numL_step (by omega)]
      intro z
      have hne := numL_ne (n / 10)
      obtain ⟨c, r, e⟩ := List.exists_cons_of_ne_nil hne
      rw [e] at z
      have z2 := ih (n / 10) (by omega) (by rw [e]; exact z)
      have z3 : n / 10 = 0 := numL_inj (z2.trans (by decide +kernel))
      omega
def strI (n : Int) : Str := Str.ofString (toString n)
theorem str_nat (n : Nat) : tl (strI (n : Int)) = numL n := tl_num n
theorem str_neg {n : Nat} (h : 0 < n) : tl (strI (-(n : Int))) = 45 :: numL n := by
  obtain ⟨m, rfl⟩ : ∃ m, n = m + 1 := ⟨n - 1, by omega⟩
  have e : toString (-((m + 1 : Nat) : Int)) = "-" ++ toString (((m + 1 : Nat) : Int)) := rfl
  unfold strI
  rw [e]
  have z : Str.ofString ("-" ++ toString (((m + 1 : Nat) : Int))) = ("-" : Str) ++ Str.ofString (toString (((m + 1 : Nat) : Int))) := by
    refine ext_tl ?_
    rw [tl_append]
    show (Str.ofString _).cps.toList = (Str.ofString _).cps.toList ++ (Str.ofString _).cps.toList
    rw [Str.ofString_eq_toList, Str.ofString_eq_toList, Str.ofString_eq_toList]
    simp [String.toList_append]
  rw [z, tl_append, dash, tl_num]
  rfl
theorem str_cases (n : Int) : (∃ m : Nat, n = (m : Int) ∧ tl (strI n) = numL m) ∨ ∃ m : Nat, 0 < m ∧ n = -(m : Int) ∧ tl (strI n) = 45 :: numL m := by
  by_cases h : 0 ≤ n
  · obtain ⟨m, rfl⟩ := Int.eq_ofNat_of_zero_le h
    exact .inl ⟨m, rfl, str_nat m⟩
  · obtain ⟨m, e⟩ := Int.eq_ofNat_of_zero_le (show 0 ≤ -n by omega)
    have hm : 0 < m := by omega
    have e2 : n = -(m : Int) := by omega
    subst e2
    exact .inr ⟨m, hm, rfl, str_neg hm⟩
/-- the word is a number as the document writes it -/
def numOk (w : Str) : Prop := canonL (figL (tl w)) ∧ (figL (tl w) = [48] → tl w = [48])
/-- its value -/
def numV (l : List Nat) : Int := match l with
  | [] => 0
  | c :: r => if c = 45 then -((digitsVal r : Nat) : Int) else ((digitsVal (c :: r) : Nat) : Int)
theorem num_word {w : Str} (h : numOk w) : (canonL (tl w) ∧ figL (tl w) = tl w ∧ numV (tl w) = ((digitsVal (tl w) : Nat) : Int)) ∨
    ∃ r, tl w = 45 :: r ∧ canonL r ∧ r ≠ [48] ∧ figL (tl w) = r ∧ numV (tl w) = -((digitsVal r : Nat) : Int) := by
  obtain ⟨h1, h2⟩ := h
  cases e : tl w with
  | nil =>
    rw [e] at h1
    exact absurd rfl h1.1
  | cons c r =>
    rw [e] at h1 h2
    by_cases hc : c = 45
    · subst hc
      have ef : figL (45 :: r) = r := by simp [figL]
      rw [ef] at h1 h2
      refine .inr ⟨r, rfl, h1, fun z => ?_, ef, by simp [numV]⟩
      have := h2 z
      cases this
    · have ef : figL (c :: r) = c :: r := by simp [figL, hc]
      rw [ef] at h1
      exact .inl ⟨h1, ef, by simp [numV, hc]⟩
theorem num_int {w : Str} (h : numOk w) (hl : w.length ≤ 4300) : intText? w = some (numV (tl w)) := by
  rcases num_word h with ⟨h1, _, e⟩ | ⟨r, hr, h1, _, _, e⟩
  · rw [e]
    exact intText_digits h1.2.1 h1.1 hl
  · rw [e]
    exact intText_neg hr h1.2.1 h1.1 hl
theorem num_back {w : Str} (h : numOk w) : w = strI (numV (tl w)) := by
  refine ext_tl ?_
  rcases num_word h with ⟨h1, _, e⟩ | ⟨r, hr, h1, hz, _, e⟩
  · rw [e, str_nat, canon_num h1]
  · rw [e, str_neg (canon_pos h1 hz), canon_num h1, hr]
theorem num_str (n : Int) : numOk (strI n) ∧ numV (tl (strI n)) = n := by
  rcases str_cases n with ⟨m, rfl, e⟩ | ⟨m, hm, rfl, e⟩
  · have c := num_canon m
    have z : ∃ a r, numL m = a :: r ∧ a ≠ 45 := by
      obtain ⟨a, r, q⟩ := List.exists_cons_of_ne_nil c.1
      refine ⟨a, r, q, ?_⟩
      have := c.2.1 a (by rw [q]; exact List.mem_cons_self)
      omega
    obtain ⟨a, r, q, ha⟩ := z
    have ef : figL (numL m) = numL m := by rw [q]; simp [figL, ha]
    refine ⟨⟨by rw [e, ef]; exact c, fun z => by rw [e, ef] at z; rw [e]; exact z⟩, ?_⟩
    have v := numL_val m
    rw [e]
    rw [q] at v ⊢
    simp only [numV, ha, if_false]
    rw [v]
  · have c := num_canon m
    have ef : figL (45 :: numL m) = numL m := by simp [figL]
    refine ⟨⟨by rw [e, ef]; exact c, fun z => ?_⟩, ?_⟩
    · rw [e, ef] at z
      have : m = 0 := numL_inj (z.trans (by decide +kernel))
      omega
    · rw [e]
      simp only [numV, if_true]
      rw [numL_val]
theorem fig_str (n : Int) : (figL (tl (strI n))).length = (numL n.natAbs).length := by
  rcases str_cases n with ⟨m, rfl, e⟩ | ⟨m, hm, rfl, e⟩
  · obtain ⟨a, r, q⟩ := List.exists_cons_of_ne_nil (numL_ne m)
    have ha : a ≠ 45 := by
      have := numL_digits m a (by rw [q]; exact List.mem_cons_self)
      omega
    rw [e, show (m : Int).natAbs = m from rfl, q]
    simp [figL, ha]
  · rw [e, show (-(m : Int)).natAbs = m by omega]
    simp [figL]
theorem len_str (n : Int) : (strI n).length ≤ (numL n.natAbs).length + 1 := by
  rw [len_tl]
  rcases str_cases n with ⟨m, rfl, e⟩ | ⟨m, hm, rfl, e⟩
  · rw [e, show (m : Int).natAbs = m from rfl]
    omega
  · rw [e, show (-(m : Int)).natAbs = m by omega, List.length_cons]
    omega
theorem strI_inj {m n : Int} (h : strI m = strI n) : m = n := by
  rw [← (num_str m).2, ← (num_str n).2, h]
theorem free_str (n : Int) : 32 ∉ tl (strI n) := by
  rcases str_cases n with ⟨m, rfl, e⟩ | ⟨m, hm, rfl, e⟩
  · rw [e]
    exact numL_free (by omega)
  · rw [e]
    intro h
    rcases List.mem_cons.mp h with h | h
    · cases h
    · exact numL_free (by omega) h
end Wt

set_option maxHeartbeats 4000000
/-! Entries in texts. -/
namespace Wt
open PySem TL NumText Builtin.Str PySem.StrLaws
theorem blank : tl (" " : Str) = [32] := by decide +kernel
theorem blank_k : (" " : Str).cps.all (· < 256) = true := by decide +kernel
theorem spl_ne : ∀ (l acc : List Nat), spl [32] 0 acc l ≠ []
  | [], acc => by rw [spl_nil]; simp
  | c :: r, acc => by
    by_cases h : pre [32] (c :: r) = true
    · rw [spl_hit h]
      simp
    · rw [spl_miss (by simpa using h)]
      exact spl_ne r _
theorem joinL_cons (S p : List Nat) {q : List (List Nat)} (h : q ≠ []) : joinL S (p :: q) = p ++ (S ++ joinL S q) := by
  obtain ⟨a, r, rfl⟩ := List.exists_cons_of_ne_nil h
  rfl
theorem join_spl : ∀ (l acc : List Nat), joinL [32] (spl [32] 0 acc l) = acc ++ l
  | [], acc => by rw [spl_nil, List.append_nil]; rfl
  | c :: r, acc => by
    by_cases h : pre [32] (c :: r) = true
    · rw [spl_hit h]
      have hc : c = 32 := by
        unfold pre at h
        simpa using h
      show joinL [32] (acc :: spl [32] 0 [] r) = _
      rw [joinL_cons _ _ (spl_ne r []), join_spl r []]
      simp [hc]
    · rw [spl_miss (by simpa using h), join_spl r _, List.append_assoc]
      rfl
def words (z : Str) : List Str := Txt.split z " "
theorem words_tl (z : Str) : (words z).map tl = spl [32] 0 [] (tl z) := by
  have e := split_spl z " " (by rw [blank]; simp) (kind_ok blank_k)
  rw [blank] at e
  exact e
theorem words_ne (z : Str) : words z ≠ [] := fun h => by
  have e := words_tl z
  rw [h] at e
  exact spl_ne _ _ e.symm
theorem words_join (z : Str) : Txt.join " " (words z) = z := by
  refine ext_tl ?_
  rw [join_eq, tl_join, blank, words_tl, join_spl, List.nil_append]
theorem joinL_len (S : List Nat) : ∀ l : List (List Nat), ∀ p ∈ l, p.length ≤ (joinL S l).length
  | [], p, h => by cases h
  | [a], p, h => by
    rw [List.mem_singleton.mp h]
    exact Nat.le_refl _
  | a :: b :: r, p, h => by
    rw [joinL_cons S a (by simp), List.length_append, List.length_append]
    rcases List.mem_cons.mp h with rfl | h
    · omega
    · have := joinL_len S (b :: r) p h
      omega
theorem words_len {z w : Str} (h : w ∈ words z) : w.length ≤ z.length := by
  have e := congrArg tl (words_join z)
  rw [join_eq, tl_join] at e
  have := joinL_len (tl " ") _ (tl w) (List.mem_map.mpr ⟨w, h, rfl⟩)
  rw [e] at this
  rw [len_tl w, len_tl z]
  exact this
theorem spl_count : ∀ (l acc : List Nat), (spl [32] 0 acc l).length ≤ l.length + 1
  | [], acc => by rw [spl_nil]; simp
  | c :: r, acc => by
    by_cases h : pre [32] (c :: r) = true
    · rw [spl_hit h]
      have := spl_count r []
      show (acc :: spl [32] 0 [] r).length ≤ _
      rw [List.length_cons, List.length_cons]
      omega
    · rw [spl_miss (by simpa using h)]
      have := spl_count r (acc ++ [c])
      rw [List.length_cons]
      omega
theorem words_count (z : Str) : (words z).length ≤ z.length + 1 := by
  have := spl_count (tl z) []
  rw [← words_tl, List.length_map, ← len_tl] at this
  exact this
def KS : List Str := ["day", "float", "zoned", "fixed"]
def fitsN (dg : Option Nat) (n : Int) : Prop := ∀ d, dg = some d → (numL n.natAbs).length ≤ d
/-- the words of an entry -/
structure RdW (dg : Option Nat) (ws : List Str) (k : Str) (a b : Int) (o : Option Str) : Prop where
  sp : ws = [k, strI a, "to", strI b] ++ o.toList
  kin : k ∈ KS
  zo : o.isSome = true ↔ k = "zoned"
  fa : fitsN dg a
  fb : fitsN dg b
  le : a ≤ b
  nm : ∀ n, o = some n → nameL (tl n)
def mkT (k : Str) (a b : Int) (o : Option Str) : Str := Txt.join " " ([k, strI a, "to", strI b] ++ o.toList)
theorem RdW.text {dg : Option Nat} {z k : Str} {a b : Int} {o : Option Str} (h : RdW dg (words z) k a b o) : z = mkT k a b o := by
  rw [← words_join z, h.sp]
  rfl
theorem ks_free {k : Str} (h : k ∈ KS) : 32 ∉ tl k := by
  have : ∀ x ∈ KS, 32 ∉ tl x := by decide +kernel
  exact this k h
theorem to_free : 32 ∉ tl ("to" : Str) := by decide +kernel
theorem mk_words {k : Str} {a b : Int} {o : Option Str} (hk : k ∈ KS) (hn : ∀ n, o = some n → nameL (tl n)) : words (mkT k a b o) = [k, strI a, "to", strI b] ++ o.toList := by
  refine split_join blank blank_k (by simp) fun p hp => ?_
  rcases List.mem_append.mp hp with hp | hp
  · simp only [List.mem_cons, List.not_mem_nil, or_false] at hp
    rcases hp with rfl | rfl | rfl | rfl
    · exact ks_free hk
    · exact free_str a
    · exact to_free
    · exact free_str b
  · cases o with
    | none => cases hp
    | some n =>
      have e : p = n := by simpa using hp
      subst e
      intro z
      have := (hn p rfl).2.2 32 z
      omega
theorem mk_reads {dg : Option Nat} {k : Str} {a b : Int} {o : Option Str} (hk : k ∈ KS) (hz : o.isSome = true ↔ k = "zoned") (ha : fitsN dg a) (hb : fitsN dg b) (hl : a ≤ b) (hn : ∀ n, o = some n → nameL (tl n)) :
    RdW dg (words (mkT k a b o)) k a b o := ⟨mk_words hk hn, hk, hz, ha, hb, hl, hn⟩
theorem RdW.uniq {dg dg' : Option Nat} {ws : List Str} {k k' : Str} {a a' b b' : Int} {o o' : Option Str} (h : RdW dg ws k a b o) (h' : RdW dg' ws k' a' b' o') : k = k' ∧ a = a' ∧ b = b' ∧ o = o' := by
  have e := h.sp.symm.trans h'.sp
  simp only [List.cons_append, List.nil_append, List.cons.injEq, true_and] at e
  obtain ⟨e1, e2, e3, e4⟩ := e
  refine ⟨e1, strI_inj e2, strI_inj e3, ?_⟩
  cases o <;> cases o' <;> simp_all
theorem mk_inj {k k' : Str} {a a' b b' : Int} {o o' : Option Str} (hk : k ∈ KS) (hn : ∀ n, o = some n → nameL (tl n)) (hk' : k' ∈ KS) (hn' : ∀ n, o' = some n → nameL (tl n)) (e : mkT k a b o = mkT k' a' b' o') :
    k = k' ∧ a = a' ∧ b = b' ∧ o = o' := by
  have h := congrArg words e
  rw [mk_words hk hn, mk_words hk' hn'] at h
  simp only [List.cons_append, List.nil_append, List.cons.injEq, true_and] at h
  obtain ⟨e1, e2, e3, e4⟩ := h
  refine ⟨e1, strI_inj e2, strI_inj e3, ?_⟩
  cases o <;> cases o' <;> simp_all
def fits (dg : Option Nat) (w : Str) : Prop := ∀ d, dg = some d → (figL (tl w)).length ≤ d
open Classical in
/-- what a word tells -/
noncomputable def numR (dg : Option Nat) (w : Str) : Option Int := if numOk w ∧ fits dg w then some (numV (tl w)) else none
theorem numR_some {dg : Option Nat} {w : Str} {n : Int} (h : numR dg w = some n) : w = strI n ∧ fitsN dg n := by
  unfold numR at h
  split at h
  · rename_i q
    have e := Option.some.inj h
    have b := num_back q.1
    rw [e] at b
    refine ⟨b, fun d hd => ?_⟩
    have := q.2 d hd
    rw [b, fig_str] at this
    exact this
  · cases h
theorem numR_str {dg : Option Nat} {n : Int} (h : fitsN dg n) : numR dg (strI n) = some n := by
  obtain ⟨h1, h2⟩ := num_str n
  unfold numR
  rw [if_pos ⟨h1, fun d hd => by rw [fig_str]; exact h d hd⟩, h2]
end Wt

set_option maxHeartbeats 0
namespace Wd
open PySem PySem.Spec PyProof.Rows L2
/-! ### facts of the written part, told by one test, beside the defs -/
def obsT (q : PySem.W.Frag → Bool) (fn : List He.DefD) (K : PySem.W.Frag) : He.AlD :=
  (q K && fn.all (He.DefD.ok K), fn.map fun d => He.fnW K d.at_)
def SaysT (q : PySem.W.Frag → Bool) (fn : List He.DefD) (K : PySem.W.Frag) : Prop := obsT q fn K = He.valD fn
def seeT (n : Nat) (q : PySem.W.Frag → Bool) (fn : List He.DefD) (g : Addr → Option Obj) : He.AlD := obsT q fn (He.frG g (He.asD g n))
def hookT (n : Nat) (q : PySem.W.Frag → Bool) (fn : List He.DefD) : PySem.W.Hook where
  α := He.AlD
  obs := fun s => seeT n q fn s.heap.get?
  val := fun _ => He.valD fn
  says := fun _ h => ∃ K : PySem.W.Frag, K.In h ∧ SaysT q fn K
  of := fun _ s z => ⟨He.frG s.heap.get? (He.asD s.heap.get? n), He.frG_in, z⟩
  keeps := fun _ _ _ ⟨K, hin, z⟩ kp => ⟨K, hin.keeps kp, z⟩
theorem seeT_eq {n : Nat} {q : PySem.W.Frag → Bool} {fn : List He.DefD} {g : Addr → Option Obj} {s : Shared} (h : ∀ a, g a = s.heap.get? a) :
    seeT n q fn g = (hookT n q fn).obs s := by
  rw [show g = s.heap.get? from funext h] <;> rfl
theorem SaysT.test {q : PySem.W.Frag → Bool} {fn : List He.DefD} {K : PySem.W.Frag} (c : SaysT q fn K) : q K = true :=
  (He.ba (show (q K && fn.all (He.DefD.ok K)) = true from congrArg (fun z : He.AlD => z.1) c)).1
theorem SaysT.def_ {q : PySem.W.Frag → Bool} {fn : List He.DefD} {K : PySem.W.Frag} (c : SaysT q fn K) (i : Nat) {d : He.DefD} (h : fn[i]? = some d := by rfl) :
    ∃ fd, FunD K d.name d.qual d.params d.body d.scope (d.dvs K) (d.kws K) (He.fAd K d.at_) fd := by
  have all := (He.ba (show (q K && fn.all (He.DefD.ok K)) = true from congrArg (fun z : He.AlD => z.1) c)).2
  have e : fn.map (fun d => He.fnW K d.at_) = fn.map He.DefD.val := congrArg (fun z : He.AlD => z.2) c
  have e2 : (fn.map fun d => He.fnW K d.at_)[i]? = (fn.map He.DefD.val)[i]? := by rw [e]
  simp only [List.getElem?_map, h, Option.map_some] at e2
  exact He.DefD.funD (Option.some.inj e2) (List.all_eq_true.mp all d (List.mem_of_getElem? h))
/-! ### the text -/
def top (i : Nat) : Stmt := PySem.Challenge.pw_whoseday_k01_entries_are_read.main.body.getD i (.Pass ⟨0, 0, 0, 0⟩)
def glD (x : Str) (st : Stmt) (dfl : List He.Dv) (kwd : List (Str × He.Dv)) : He.DefD := ⟨(x, none), x, x, defArgs st, defBody st, defScope st, dfl, kwd⟩
def meD (c m q : Str) (st : Stmt) (dfl : List He.Dv) (kwd : List (Str × He.Dv)) : He.DefD := ⟨(c, some m), m, q, defArgs st, defBody st, defScope st, dfl, kwd⟩
def names : List PySem.Str := ["WhosedayError", "BadText", "MOST_DIGITS", "MOST_LETTERS", "is_name", "number_in", "DAY", "KINDS", "Entry", "entry_of", "is_kind", "_later", "_parts", "_law_pen", "_law_draw", "_law_pick", "_law_big", "_law_entry_text", "_law_is_name", "_law_number", "_law_whole", "_law_bent", "_law_any_name", "_law_far_number", "_law_read", "_law_entry_due", "_law_right_text", "_law_odd_number", "_law_odd_text", "_law_later_right", "_law_unlike_right"]
def errB (K : PySem.W.Frag) (C : Addr) : Bool :=
  (PySem.W.clsIn K C).isSome && (He.eqO (PySem.W.findIn K (.ref C) "__getattribute__") (some (some (.builtin "BaseException.__getattribute__"))) &&
  (He.eqO (PySem.W.findIn K (.ref C) "__getattr__") (some none) && (decide (PySem.W.subIn K (.ref C) (.type "BaseException") = some true) &&
  (PySem.W.hasDictIn K C && (He.eqO (PySem.W.findIn K (.ref C) "__class__") (some (some (.builtin "object.__class__"))) && decide (PySem.W.mroIn K C (.type "object") = some true))))))
def oexB (K : PySem.W.Frag) (C : Addr) : Bool :=
  (match K.lookup C with
    | some ⟨.type "type", _, .cls cd, sl⟩ => (match cd.mro, sl.toList with
      | .ref C' :: bm, [_, _, _, _, some (.builtin n), _] => C' == C && (n == "ValueError.__new__" && (!cd.hasDel && (cd.hasDict && PySem.HandSPX.refsVE bm)))
      | _, _ => false)
    | _ => false) && (He.eqO (PySem.W.findIn K (.ref C) "__setattr__") (some (some (.builtin "object.__setattr__"))) &&
  (decide (PySem.W.typeIn K (.ref C) = some (.type "type")) && PySem.W.keepIn K (.ref C)))
def iniB (K : PySem.W.Frag) (x f : Str) : Bool :=
  oexB K (He.ga K x) && (He.eqO (PySem.W.findIn K (.ref (He.ga K x)) f) (some none) &&
  (He.eqO (PySem.W.findIn K (.ref (He.ga K x)) "__init__") (some (some (.ref (He.ma K (He.ga K x) "__init__")))) &&
  decide (PySem.W.typeIn K (.ref (He.ma K (He.ga K x) "__init__")) = some (.type "function"))))
def entB (K : PySem.W.Frag) : Bool :=
  He.eqO (PySem.W.findIn K (.ref (He.ga K "Entry")) "__ne__") (some (some (.builtin "object.__ne__"))) && (He.eqO (PySem.W.findIn K (.ref (He.ga K "Entry")) "__class__") (some (some (.builtin "object.__class__"))) &&
  (decide (PySem.W.mroIn K (He.ga K "Entry") (.type "object") = some true) && (decide (PySem.W.kitOne K (.ref (He.ga K "Entry")) (.ref (He.ga K "Entry")) = some true) &&
  (He.tupB K "KINDS" [.str "day", .str "float", .str "zoned", .str "fixed"] && (decide (PySem.W.kitOne K (.type "str") (.ref (He.ga K "Entry")) = some false) && (decide (PySem.W.subIn K (.type "str") (.ref (He.ga K "Entry")) = some false) && (PySem.W.selfFirst K (He.ga K "Entry") && (He.eqO (PySem.W.findIn K (.ref (He.ga K "Entry")) "__radd__") (some none) &&
  (He.eqO (PySem.W.findIn K (.ref (He.ga K "Entry")) "__rsub__") (some none) && decide (PySem.W.subIn K (.type "int") (.ref (He.ga K "Entry")) = some false))))))))))
def errB2 (K : PySem.W.Frag) : Bool := errB K (He.ga K "BadText") && (decide (PySem.W.kitOne K (.ref (He.ga K "BadText")) (.ref (He.ga K "WhosedayError")) = some true) && decide (PySem.W.kitOne K (.ref (He.ga K "BadText")) (.type "ValueError") = some true))
def clsB (K : PySem.W.Frag) : Bool := He.eqO (PySem.W.specialIn K (.builtin "object.__class__") "__get__") (some (some (.builtin "getset_descriptor.__get__"))) && decide (PySem.W.takesIn K (.builtin "object.__class__") = some true)
def fas : List He.Fa := [.glo "is_name", .glo "number_in", .glo "entry_of", .glo "is_kind", .glo "_later", .glo "_parts", .glo "_law_pen", .glo "_law_draw", .glo "_law_pick", .glo "_law_big", .glo "_law_entry_text", .glo "_law_is_name", .glo "_law_number", .glo "_law_whole", .glo "_law_bent", .glo "_law_any_name", .glo "_law_far_number", .glo "_law_read", .glo "_law_entry_due", .glo "_law_right_text", .glo "_law_odd_number", .glo "_law_odd_text", .glo "_law_later_right", .glo "_law_unlike_right", .glo "law", .glo "Entry", .glo "WhosedayError", .glo "BadText", .glo "KINDS", .int "DAY" 1440, .int "MOST_LETTERS" 12, .free "list", .free "int", .free "len", .free "str", .free "range", .free "isinstance", .free "bool", .free "sorted", .free "all", .free "any", .free "abs", .free "ValueError", .cls "Entry", .mkr "Entry", .meth "Entry" "__eq__", .meth "Entry" "__add__", .meth "Entry" "__sub__", .noat "Entry" "text", .noat "Entry" "kind", .noat "Entry" "first", .noat "Entry" "last", .noat "Entry" "zone", .exm "BadText" "BadText" true]
def q (K : PySem.W.Frag) : Bool := fas.all (fun f => f.ok K) && (iniB K "BadText" "line" && (errB2 K && (entB K && clsB K)))
def fn : List He.DefD := [glD "is_name" (top 6) [] [],
  glD "number_in" (top 7) [.int 30] [],
  glD "entry_of" (top 12) [] [],
  glD "is_kind" (top 13) [] [],
  glD "_later" (top 14) [] [],
  glD "_parts" (top 15) [] [],
  glD "_law_pen" (top 17) [] [],
  glD "_law_draw" (top 18) [] [],
  glD "_law_pick" (top 19) [] [],
  glD "_law_big" (top 20) [] [],
  glD "_law_entry_text" (top 21) [] [],
  glD "_law_is_name" (top 22) [] [],
  glD "_law_number" (top 23) [] [],
  glD "_law_whole" (top 24) [] [],
  glD "_law_bent" (top 25) [] [],
  glD "_law_any_name" (top 26) [] [],
  glD "_law_far_number" (top 27) [] [],
  glD "_law_read" (top 28) [] [],
  glD "_law_entry_due" (top 29) [] [],
  glD "_law_right_text" (top 30) [] [],
  glD "_law_odd_number" (top 31) [] [],
  glD "_law_odd_text" (top 32) [] [],
  glD "_law_later_right" (top 33) [] [],
  glD "_law_unlike_right" (top 34) [] [],
  glD "law" (top 35) [] [],
  meD "Entry" "__init__" "Entry.__init__" (inClass (top 11) 0) [] [("digits", .int 30)],
  meD "Entry" "__eq__" "Entry.__eq__" (inClass (top 11) 1) [] [],
  meD "Entry" "__add__" "Entry.__add__" (inClass (top 11) 2) [] [],
  meD "Entry" "__sub__" "Entry.__sub__" (inClass (top 11) 3) [] [],
  meD "BadText" "__init__" "BadText.__init__" (inClass (top 2) 0) [] []]
abbrev R : PySem.W.OpenRow := PySem.W.OpenLaw.row PySem.Challenge.rw_whoseday_k01_entries_are_read
abbrev hk : PySem.W.Hook := hookT 5 q fn
def ob (s : PySem.W.SharedT) : He.AlD := seeT 5 q fn (HandSHeadRun.getT s)
theorem ob_eq (s : PySem.W.SharedT) : ob s = hk.obs s.abs := seeT_eq (HandSHeadRun.getT_eq s)
theorem run (w : World) : HandSHeadRun.RunEq R (PySem.W.view R.prog [35]) hk ob 8000 names w := by
  intro os
  kernel_rfl
end Wd

set_option maxHeartbeats 4000000
namespace Wd
open PySem PySem.Spec PyProof.Rows L2
abbrev FnG (K : PySem.W.Frag) (x : Str) (i : Nat) (f : Addr) (fd : FuncData) : Prop := FunD K x x (defArgs (top i)) (defBody (top i)) (defScope (top i)) [] [] f fd
/-! ### the pen -/
def penD (l : Addr) (a b : Int) : List (Key × V) := [(Sum.inr "cells", .ref l), (Sum.inr "at", .int a), (Sum.inr "left", .int b)]
theorem k1 : ¬ (("cells" : Str) = "at") := by decide +kernel
theorem k2 : ¬ (("cells" : Str) = "left") := by decide +kernel
theorem k3 : ¬ (("at" : Str) = "left") := by decide +kernel
theorem j1 : ¬ ((Sum.inr ("cells" : Str) : Key) = Sum.inr ("at" : Str)) := fun z => k1 (Sum.inr.inj z)
theorem j2 : ¬ ((Sum.inr ("cells" : Str) : Key) = Sum.inr ("left" : Str)) := fun z => k2 (Sum.inr.inj z)
theorem j3 : ¬ ((Sum.inr ("at" : Str) : Key) = Sum.inr ("left" : Str)) := fun z => k3 (Sum.inr.inj z)
section
variable {l d : Addr} {a b x : Int} {H : Hp}
theorem pd_cells : valV (penD l a b) (Sum.inr "cells") = some (.ref l) := valV_pos rfl
theorem pd_at : valV (penD l a b) (Sum.inr "at") = some (.int a) := (valV_neg j1).trans (valV_pos rfl)
theorem pd_left : valV (penD l a b) (Sum.inr "left") = some (.int b) := (valV_neg j2).trans ((valV_neg j3).trans (valV_pos rfl))
theorem pp_at : putK (penD l a b) (Sum.inr "at") (.int x) = penD l x b := by
  simp [putK, penD, k1, Ne.symm k3]
theorem pp_left : putK (penD l a b) (Sum.inr "left") (.int x) = penD l a x := by
  simp [putK, penD, k2, k3]
theorem gt_cells (h : H d = some (.dK (penD l a b))) : DGet H d (.str "cells") (some (.ref l)) := by
  have z := DGet.k (k := Sum.inr "cells") h
  rw [pd_cells] at z
  exact z
theorem gt_at (h : H d = some (.dK (penD l a b))) : DGet H d (.str "at") (some (.int a)) := by
  have z := DGet.k (k := Sum.inr "at") h
  rw [pd_at] at z
  exact z
theorem gt_left (h : H d = some (.dK (penD l a b))) : DGet H d (.str "left") (some (.int b)) := by
  have z := DGet.k (k := Sum.inr "left") h
  rw [pd_left] at z
  exact z
theorem pt_at (h : H d = some (.dK (penD l a b))) : DPut H d (.str "at") (.int x) (upd H d (.dK (penD l x b))) := by
  have z := DPut.k (k := Sum.inr "at") (v := .int x) h (small1000 (show 3 ≤ 1000 by decide))
  rw [pp_at] at z
  exact z
theorem pt_left (h : H d = some (.dK (penD l a b))) : DPut H d (.str "left") (.int x) (upd H d (.dK (penD l a x))) := by
  have z := DPut.k (k := Sum.inr "left") (v := .int x) h (small1000 (show 3 ≤ 1000 by decide))
  rw [pp_left] at z
  exact z
end
theorem ifT {p : Prop} [Decidable p] {A B : Prop} (h : p) (a : A) : if decide p = true then A else B := by rw [if_pos (decide_eq_true h)]; exact a
theorem ifF {p : Prop} [Decidable p] {A B : Prop} (h : ¬ p) (b : B) : if decide p = true then A else B := by
  rw [decide_eq_false h, if_neg Bool.false_ne_true]
  exact b
theorem ifC {p : Prop} [Decidable p] {A B : Prop} (a : p → A) (b : ¬ p → B) : if decide p = true then A else B := by
  by_cases h : p
  · exact ifT h (a h)
  · exact ifF h (b h)
theorem cm1 (x y : Int) : CMul (x % 2147483629 + 1) y := .inl ⟨by omega, by omega⟩
theorem cm2 (x y : Int) : CMul (x % 2147483647) y := .inl ⟨by omega, by omega⟩
theorem cm3 (x y : Int) : CMul (x % 2147483587) y := .inl ⟨by omega, by omega⟩
/-- at d a pen over a list at l, with a next place -/
def Pen (H : Hp) (d l : Addr) (a : Int) : Prop :=
  ∃ (cs : List Int) (b : Int), H d = some (.dK (penD l a b)) ∧ H l = some (.lst (cs.map V.int)) ∧ cs.length ≤ 63 ∧ 0 ≤ b ∧ 0 ≤ a
/-- all but the pen's dict stands as before -/
def But (d : Addr) (H H' : Hp) : Prop := ∀ c o, H c = some o → c ≠ d → H' c = some o
theorem But.refl {d : Addr} {H : Hp} : But d H H := fun _ _ z _ => z
theorem But.trans {d : Addr} {H H1 H2 : Hp} (x : But d H H1) (y : But d H1 H2) : But d H H2 := fun c o z n => y c o (x c o z n) n
theorem But.same {d : Addr} {H H1 : Hp} (x : Same H H1) : But d H H1 := fun c o z _ => x c o z
theorem But.upd {d : Addr} {H : Hp} {o : HO} : But d H (upd H d o) := fun c u z n => by rw [upd_ne n]; exact z
def spPen (K : PySem.W.Frag) : Sp := fun vs H Q _ => ∃ (a : Addr) (ns : List Int), vs = [.ref a] ∧ SqL K H a (ns.map V.int) ∧ ns.length ≤ 63 ∧
  ∀ H' d l, Same H H' → H d = none → H l = none → Pen H' d l 0 → Q (.ref d) H'
def spDraw : Sp := fun vs H Q _ => ∃ (d l : Addr) (a n : Int), vs = [.ref d, .int n] ∧ Pen H d l a ∧ a ≤ 100000 ∧ 0 < n ∧ n < 1073741824 ∧
  ∀ r a' H', 0 ≤ r → r < n → a ≤ a' → a' ≤ a + 1 → Pen H' d l a' → But d H H' → Q (.int r) H'
def spPick (K : PySem.W.Frag) : Sp := fun vs H Q _ => ∃ (d l : Addr) (a : Int) (s : V), vs = [.ref d, s] ∧ Pen H d l a ∧ a ≤ 100000 ∧
  ((∃ t xs, s = .ref t ∧ t ≠ d ∧ H t = some (.lst xs) ∧ xs ≠ [] ∧ xs.length ≤ 1000 ∧ ∀ x a' H', x ∈ xs → a ≤ a' → a' ≤ a + 1 → Pen H' d l a' → But d H H' → Q x H') ∨
   ∃ z : Str, s = .str z ∧ z.cps.toList ≠ [] ∧ z.length ≤ 1000 ∧ ∀ c a' H', c ∈ z.cps.toList → a ≤ a' → a' ≤ a + 1 → Pen H' d l a' → But d H H' → Q (.str ⟨#[c]⟩) H')
structure TxtP (mg : Str → Option Value) : Prop where
  list : mg "list" = none
  int : mg "int" = none
  len : mg "len" = none
theorem dp_ints {K : PySem.W.Frag} {H : Hp} : ∀ cs : List Int, DpAll K H (cs.map V.int) (cs.map PyData.int)
  | [] => .nil
  | c :: r => .cons (.int c) (dp_ints r)
theorem shaped_ints0 (cs : List Int) : SeqAt.shaped (.list (cs.map PyData.int)) = true := PySem.W.ke_shaped_ints cs
theorem at_mod {cs : List Int} (h : cs ≠ []) (a : Int) : (0 : Int) < (cs.length : Int) ∧ ∃ c, atI (cs.map V.int) (a % (cs.length : Int)) = some (.int c) := by
  have pos : (0 : Int) < (cs.length : Int) := by
    have := List.length_pos_iff.mpr h
    omega
  obtain ⟨j, hj⟩ := Int.eq_ofNat_of_zero_le (Int.emod_nonneg a (show (cs.length : Int) ≠ 0 by omega))
  have lt := Int.emod_lt_of_pos a pos
  rw [hj] at lt ⊢
  have lt2 : j < cs.length := by omega
  refine ⟨pos, cs[j], atI_nat ?_⟩
  rw [List.getElem?_map, List.getElem?_eq_getElem lt2]
  rfl
theorem cut_ints (ns : List Int) (lo hi : Option Int) : ∃ cs : List Int, cutV (ns.map V.int) lo hi = cs.map V.int ∧ cs.length ≤ ns.length := by
  refine ⟨(ns.drop (HT.sIx (ns.map V.int).length 0 lo)).take (HT.sIx (ns.map V.int).length (ns.map V.int).length hi - HT.sIx (ns.map V.int).length 0 lo), ?_, ?_⟩
  · unfold cutV
    rw [List.map_take, List.map_drop]
  · rw [List.length_take, List.length_drop]
    omega
section
variable {P : Program} {w : World} {K : PySem.W.Frag} {mg : Str → Option Value} {base : Heap} {f : Addr} {fd : FuncData}
theorem scPen : FnScope ["_law_script"] ["_law_script"] (defScope (top 17)) := ⟨rfl, rfl, rfl, by decide +kernel, rfl, by decide +kernel, by decide +kernel⟩
theorem ok_pen (F : FnG K "_law_pen" 17 f fd) (T : TxtP mg) : FnOk P w K mg base CX0 1 f fd ["_law_script"] (spPen K) := by
  refine F.ok scPen (fun vs H Q E h => ?_) (fun cdv A outer s H vs Q E hr h => ?_)
  · obtain ⟨a, ns, rfl, _⟩ := h
    rfl
  · obtain ⟨a, ns, rfl, hs, hl, k⟩ := h
    refine ⟨_, PSs.nox (pss_one (ps_ret (pe_disp (pps_cons pe_str (pe_callTy call_list_of (by rfl) T.list (by decide +kernel) (pa_cons (pe_slice sl_list (pv 0) po_none (po_some pe_int)) pa_nil))
      (pps_cons pe_str pe_int (pps_cons pe_str pe_int pps_nil))) (by rfl) (by rfl) (fun z => by cases z) (by decide)))), ?_⟩
    intro p hp
    have np : ∀ {c : Addr} {o : HO}, H c = some o → c ≠ p := fun z => ne_of_none z hp
    have h0 : Same H (upd H p (.dK [])) := fun c o z => by
      rw [upd_ne (np z)]
      exact z
    refine ⟨_, rfl, 63, rfl, a, _, rfl, h0.seq hs, fun s1 hs1 => ?_⟩
    refine ⟨s1, _, rfl, .inl (SqL.of upd_same), fun l hl1 => ?_⟩
    obtain ⟨cs, hc, hz⟩ := cut_ints ns none (some 63)
    rw [hc] at hl1
    rw [hc]
    have e1 : p ≠ s1 := ne_of_none upd_same hs1
    have e2 : p ≠ l := fun z => by
      rw [← z, upd_ne e1, upd_same] at hl1
      cases hl1
    have e3 : s1 ≠ l := ne_of_none upd_same hl1
    have nl : H l = none := by
      rw [upd_ne e3.symm, upd_ne e2.symm] at hl1
      exact hl1
    have ns1 : H s1 = none := by
      rw [upd_ne e1.symm] at hs1
      exact hs1
    refine ⟨by rw [upd_ne e2, upd_ne e1, upd_same], penD l 0 0, rfl, (show 3 ≤ 15 by decide), ?_⟩
    have em : mergeK [] (penD l 0 0) = penD l 0 0 := by
      simp [mergeK, penD, putK, k1, k2, k3]
    rw [em]
    refine k _ p l (fun c o z => ?_) hp nl ⟨cs, 0, upd_same, ?_, by omega, Int.le_refl 0, Int.le_refl 0⟩
    · rw [upd_ne (np z), upd_ne (ne_of_none z nl), upd_ne (ne_of_none z ns1), upd_ne (np z)]
      exact z
    · rw [upd_ne e2.symm, upd_same]
theorem scDraw : FnScope ["_law_pen_here", "_law_many", "_law_digit", "_law_spot", "_law_cell", "_law_mixed"] ["_law_pen_here", "_law_many"] (defScope (top 18)) := ⟨rfl, rfl, rfl, by decide +kernel, rfl, by decide +kernel, by decide +kernel⟩
theorem ok_draw (F : FnG K "_law_draw" 18 f fd) (T : TxtP mg) : FnOk P w K mg base CX0 1 f fd ["_law_pen_here", "_law_many"] spDraw := by
  refine F.ok scDraw (fun vs H Q E h => ?_) (fun cdv A outer s H vs Q E hr h => ?_)
  · obtain ⟨d, l, a, n, rfl, _⟩ := h
    rfl
  · obtain ⟨d, l, a, n, rfl, ⟨cs, b, hd, hl, hz, hb, ha⟩, ha2, hn, hn2, k⟩ := h
    have hu := hu_of hr
    have hu64 := hr.units
    refine ⟨_, PSs.nox (pss_cons (ps_if (pt_cmpR op_ge (pe_dget hu (pv 0) pe_str (fun _ _ => rfl)) (pv 1) (nomark _)) (pss_cons (ps_set (i := 2) scDraw.nd rfl (Or.inl rfl) (pe_op op_mod (pe_callTy call_int1 (by rfl) T.int (by decide +kernel) (pa_cons (pe_dget hu (pv 0) pe_str (fun _ _ => rfl)) pa_nil)) (pv 1)))
        (pss_cons (ps_dput hu (pv 0) pe_str (pe_op op_fdiv (pe_dget hu (pv 0) pe_str (fun _ _ => rfl)) (pv 1)) rfl)
        (pss_one (ps_ret (pv 2))))) pss_nil)
        (pss_cons (ps_set (i := 3) scDraw.nd rfl (Or.inl rfl) (pe_dget hu (pv 0) pe_str (fun _ _ => rfl)))
        (pss_cons (ps_dput hu (pv 0) pe_str (pe_op op_add (pv 3) pe_int) rfl)
        (pss_cons (ps_set (i := 4) scDraw.nd rfl (Or.inl rfl) (pe_op op_add (pe_op op_mul pe_int (pv 3)) pe_int))
        (pss_cons (ps_if (pt_cmpR (op_neD hu64) (pe_dget hu (pv 0) pe_str (fun _ _ => rfl)) (pe_lst pa_nil) (nomark _)) (pss_one (ps_set (i := 4) scDraw.nd rfl (Or.inl rfl) (pe_ix ix_list (pe_dget hu (pv 0) pe_str (fun _ _ => rfl)) (pe_op op_mod (pe_callTy call_int1 (by rfl) T.int (by decide +kernel) (pa_cons (pv 3) pa_nil)) (pe_callB call_len (by rfl) T.len PySem.boot_len (pa_cons (pe_dget hu (pv 0) pe_str (fun _ _ => rfl)) pa_nil))) (fun _ _ => rfl)))) pss_nil)
        (pss_cons (ps_if (PW.pt (pw_and (pt_cmpR op_lt (pv 3) (pe_callB call_len (by rfl) T.len PySem.boot_len (pa_cons (pe_dget hu (pv 0) pe_str (fun _ _ => rfl)) pa_nil)) (nomark _)) (pw_and1 (pt_cmpR op_ge (pv 4) (pe_op op_pow pe_int pe_int) (nomark _))))) (pss_cons (ps_dput hu (pv 0) pe_str (pe_op op_fdiv (pe_op op_sub (pv 4) (pe_op op_pow pe_int pe_int)) (pv 1)) rfl)
        (pss_one (ps_ret (pe_op op_mod (pe_callTy call_int1 (by rfl) T.int (by decide +kernel) (pa_cons (pe_op op_sub (pv 4) (pe_op op_pow pe_int pe_int)) pa_nil)) (pv 1))))) pss_nil)
        (pss_cons (ps_set (i := 5) scDraw.nd rfl (Or.inl rfl) (pe_op op_add (pe_op op_add (pe_op op_mul (pe_op op_add (pe_op op_mod (pe_callTy call_int1 (by rfl) T.int (by decide +kernel) (pa_cons (pv 4) pa_nil)) pe_int) pe_int) (pe_op op_add (pe_op op_mul pe_int (pv 3)) pe_int)) (pe_op op_mul (pe_op op_mul pe_int (pv 3)) (pv 3))) pe_int))
        (pss_cons (ps_set (i := 5) scDraw.nd rfl (Or.inl rfl) (pe_op op_mod (pe_callTy call_int1 (by rfl) T.int (by decide +kernel) (pa_cons (pv 5) pa_nil)) pe_int))
        (pss_cons (ps_set (i := 5) scDraw.nd rfl (Or.inl rfl) (pe_op op_mod (pe_callTy call_int1 (by rfl) T.int (by decide +kernel) (pa_cons (pe_op op_mul (pv 5) (pe_op op_add (pv 5) pe_int)) pa_nil)) pe_int))
        (pss_cons (ps_set (i := 5) scDraw.nd rfl (Or.inl rfl) (pe_op op_mod (pe_callTy call_int1 (by rfl) T.int (by decide +kernel) (pa_cons (pe_op op_mul (pv 5) (pv 5)) pa_nil)) pe_int))
        (pss_one (ps_ret (pe_op op_mod (pe_callTy call_int1 (by rfl) T.int (by decide +kernel) (pa_cons (pe_op op_fdiv (pv 5) pe_int) pa_nil)) (pv 1)))))))))))))), ?_⟩
    refine ⟨_, rfl, d, _, rfl, gt_left hd, _, rfl, _, _, rfl, rfl, _, rfl, ?_⟩
    by_cases hc : n ≤ b
    · refine ifT hc ?_
      refine ⟨_, rfl, d, _, rfl, gt_left hd, .inl ⟨b, rfl, ?_⟩⟩
      refine ⟨_, rfl, b, n, rfl, rfl, hn, ?_⟩
      refine ⟨_, rfl, d, _, rfl, gt_left hd, _, rfl, b, n, rfl, rfl, ⟨hn, hn2⟩, ?_⟩
      refine ⟨_, rfl, d, _, rfl, pt_left hd, ?_⟩
      refine ⟨_, rfl, ?_⟩
      have dl : l ≠ d := ne_of hl hd (by intro z; cases z)
      exact k _ a _ (Int.emod_nonneg b (by omega)) (Int.emod_lt_of_pos b hn) (Int.le_refl a) (by omega)
        ⟨cs, b / n, upd_same, by rw [upd_ne dl]; exact hl, hz, Int.ediv_nonneg hb (by omega), ha⟩ But.upd
    · refine ifF hc ?_
      have dl : l ≠ d := ne_of hl hd (by intro z; cases z)
      refine ⟨_, rfl, d, _, rfl, gt_at hd, ?_⟩
      refine ⟨_, rfl, a, 1, rfl, rfl, _, rfl, d, _, rfl, pt_at hd, ?_⟩
      refine ⟨_, rfl, 37, a, rfl, rfl, .inl ⟨by decide, by decide⟩, _, _, rfl, rfl, ?_⟩
      refine ⟨_, rfl, d, _, rfl, gt_cells upd_same, Nat.zero_le _, fun p hp => ?_⟩
      have hl1 : upd H d (.dK (penD l (a + 1) b)) l = some (.lst (cs.map V.int)) := by rw [upd_ne dl]; exact hl
      have lp : l ≠ p := ne_of_none hl1 hp
      have dp : d ≠ p := ne_of_none upd_same hp
      have h2l : upd (upd H d (.dK (penD l (a + 1) b))) p (.lst []) l = some (.lst (cs.map V.int)) := by rw [upd_ne lp]; exact hl1
      have h2d : upd (upd H d (.dK (penD l (a + 1) b))) p (.lst []) d = some (.dK (penD l (a + 1) b)) := by rw [upd_ne dp, upd_same]
      have h2b : But d H (upd (upd H d (.dK (penD l (a + 1) b))) p (.lst [])) := fun c o z n => by
        have z1 : upd H d (.dK (penD l (a + 1) b)) c = some o := by rw [upd_ne n]; exact z
        rw [upd_ne (ne_of_none z1 hp)]
        exact z1
      refine ⟨_, _, .lst (SqL.of h2l) (dp_ints cs), .lst (SqL.of upd_same) .nil, shaped_ints0 cs, shaped_ints0 [], _, rfl, ?_⟩
      generalize upd (upd H d (.dK (penD l (a + 1) b))) p (.lst []) = H2 at h2l h2d h2b ⊢
      have out : ∀ (r b' : Int), 0 ≤ r → r < n → 0 ≤ b' → Q (.int r) (upd H2 d (.dK (penD l (a + 1) b'))) := fun r b' r0 rn b0 =>
        k r (a + 1) _ r0 rn (by omega) (Int.le_refl _) ⟨cs, b', upd_same, by rw [upd_ne dl]; exact h2l, hz, b0, by omega⟩ (h2b.trans But.upd)
      have out2 : ∀ (r : Int), 0 ≤ r → r < n → Q (.int r) H2 := fun r r0 rn =>
        k r (a + 1) _ r0 rn (by omega) (Int.le_refl _) ⟨cs, b, h2d, h2l, hz, hb, by omega⟩ h2b
      by_cases hcs : cs = []
      all_goals first
        | (have hcs0 : cs = [] := hcs
           rw [show (!PyData.eqv (.list (cs.map PyData.int)) (.list [])) = false from by rw [hcs]; rfl]
           refine iteF ?_)
        | (rw [show (!PyData.eqv (.list (cs.map PyData.int)) (.list [])) = true from by
             obtain ⟨c0, cr, rfl⟩ := List.exists_cons_of_ne_nil hcs
             rfl]
           refine iteT ?_
           obtain ⟨pos, c, at_⟩ := at_mod hcs a
           refine ⟨_, rfl, d, _, rfl, gt_cells h2d, _, rfl, .inl ⟨a, rfl, _, rfl, d, _, rfl, gt_cells h2d, _, cs.length, rfl, .inl ⟨_, SqL.of h2l, by rw [List.length_map]⟩, _, _, rfl, rfl, pos, l, _, _, _, rfl, rfl, SqL.of h2l, at_, ?_⟩⟩)
      all_goals
        refine ⟨_, rfl, _, rfl, d, _, rfl, gt_cells h2d, _, cs.length, rfl, .inl ⟨_, SqL.of h2l, by rw [List.length_map]⟩, _, _, rfl, rfl, _, rfl, ?_⟩
        refine ifC (fun hlt => ?_) (fun hlt => ?_)
      all_goals first
        | (refine ⟨_, rfl, 10, 18, rfl, rfl, ⟨by decide, by decide, by decide⟩, _, _, rfl, rfl, _, rfl, ?_⟩
           refine ifC (fun hge => ?_) (fun hge => ?_))
        | refine iteF ?_
      all_goals first
        | (refine ⟨_, rfl, 10, 18, rfl, rfl, ⟨by decide, by decide, by decide⟩, _, _, rfl, rfl, _, rfl, _, _, rfl, rfl, ⟨hn, hn2⟩, _, rfl, d, _, rfl, pt_left h2d, ?_⟩
           refine ⟨_, rfl, 10, 18, rfl, rfl, ⟨by decide, by decide, by decide⟩, _, _, rfl, rfl, .inl ⟨_, rfl, _, rfl, _, _, rfl, rfl, hn, ?_⟩⟩
           exact out _ _ (Int.emod_nonneg _ (by omega)) (Int.emod_lt_of_pos _ hn) (Int.ediv_nonneg (Int.sub_nonneg_of_le hge) (by omega)))
        | (refine ⟨_, rfl, .inl ⟨_, rfl, _, _, rfl, rfl, (show (0 : Int) < 2147483629 by decide), _, _, rfl, rfl, _, rfl, _, _, rfl, rfl, .inl ⟨by decide, by decide⟩, _, _, rfl, rfl, _, _, rfl, rfl, cm1 _ _,
             _, rfl, _, _, rfl, rfl, .inl ⟨by decide, by decide⟩, _, rfl, _, _, rfl, rfl, .inl ⟨by omega, by omega⟩, _, _, rfl, rfl, _, _, rfl, rfl, ?_⟩⟩
           refine ⟨_, rfl, .inl ⟨_, rfl, _, _, rfl, rfl, (show (0 : Int) < 2147483647 by decide), ?_⟩⟩
           refine ⟨_, rfl, _, rfl, _, _, rfl, rfl, _, _, rfl, rfl, cm2 _ _, .inl ⟨_, rfl, _, _, rfl, rfl, (show (0 : Int) < 2147483587 by decide), ?_⟩⟩
           refine ⟨_, rfl, _, rfl, _, _, rfl, rfl, cm3 _ _, .inl ⟨_, rfl, _, _, rfl, rfl, (show (0 : Int) < 2147483563 by decide), ?_⟩⟩
           refine ⟨_, rfl, _, _, rfl, rfl, ⟨by decide, by decide⟩, .inl ⟨_, rfl, _, rfl, _, _, rfl, rfl, hn, ?_⟩⟩
           exact out2 _ (Int.emod_nonneg _ (by omega)) (Int.emod_lt_of_pos _ hn))
end
end Wd

set_option maxHeartbeats 4000000
namespace Wd
open PySem PySem.Spec PyProof.Rows L2
/-- a def of the text: what it keeps, under its name -/
structure Df (P : Program) (w : World) (K : PySem.W.Frag) (mg : Str → Option Value) (base : Heap) (CX : CXT) (k : Nat) (x : Str) (ps : List Str) (sp : Sp) : Prop where
  ex : ∃ f fd, FnOk P w K mg base CX k f fd ps sp ∧ mg x = some (.ref f) ∧ PySem.W.keepIn K (.ref f) = true ∧ Binds K fd ps []
section
variable {X : Cx} {CX : CXT} {k : Nat} {x : Str} {ps : List Str} {sp : Sp} {E : XK} {e : Expr} {es : List Expr} {t : TA} {p pos : Pos}
theorem pe_cd (D : Df X.prog X.w X.K X.mg X.base CX k x ps sp) (hr : Room k X.A) (hx : Passes CX X E) (ha : PA X (e :: es) t) (hg : Gl X x := by rfl)
    (hdb : (x == ("__debug__" : Str)) = false := by decide)
    (he : starEach (e :: es) X.env = (false, eval e X.env) :: starEach es X.env := by rfl) (hpl : (backTo pos (starEach es X.env)).any (·.1) = false := by rfl) :
    PE X (.Call (.Name x p) (e :: es) [] pos) (tCall sp [] E t) := by
  obtain ⟨f, fd, G, hm, hk, hb⟩ := D.ex
  exact pe_call G hr hg hm hk hb .nil hx ha hdb he hpl
end
section
variable {P : Program} {w : World} {K : PySem.W.Frag} {mg : Str → Option Value} {base : Heap} {f : Addr} {fd : FuncData}
theorem same_upd {H : Hp} {a : Addr} {o : HO} (ha : H a = none) : Same H (upd H a o) := fun b z hb => by
  rw [upd_ne (ne_of_none hb ha)]
  exact hb
theorem Pen.same {d l : Addr} {a : Int} {H H' : Hp} (s : Same H H') (h : Pen H d l a) : Pen H' d l a := by
  obtain ⟨cs, b, h1, h2, h3⟩ := h
  exact ⟨cs, b, s _ _ h1, s _ _ h2, h3⟩
theorem scPick : FnScope ["_law_pen_here", "_law_some"] ["_law_pen_here", "_law_some"] (defScope (top 19)) := ⟨rfl, rfl, rfl, by decide +kernel, rfl, by decide +kernel, by decide +kernel⟩
theorem ok_pick (F : FnG K "_law_pick" 19 f fd) (T : TxtP mg) (Dd : Df P w K mg base CX0 1 "_law_draw" ["_law_pen_here", "_law_many"] spDraw) : FnOk P w K mg base CX0 2 f fd ["_law_pen_here", "_law_some"] (spPick K) := by
  refine F.ok scPick (fun vs H Q E h => ?_) (fun cdv A outer s H vs Q E hr h => ?_)
  · obtain ⟨d, l, a, s, rfl, _⟩ := h
    rfl
  · obtain ⟨d, l, a, v, rfl, hp, ha, h⟩ := h
    refine ⟨_, PSs.nox (pss_one (ps_ret (pe_ix ix_seq (pv 1) (pe_cd Dd (hr.mono (by decide)) pass0 (pa_cons (pv 0) (pa_cons (pe_callB call_len (by rfl) T.len PySem.boot_len (pa_cons (pv 1) pa_nil)) pa_nil))) (fun _ _ => rfl)))), ?_⟩
    rcases h with ⟨t, xs, rfl, td, ht, hx, hz, k⟩ | ⟨z, rfl, hx, hz, k⟩
    · have pos : 0 < xs.length := List.length_pos_iff.mpr hx
      refine ⟨_, rfl, _, rfl, _, rfl, _, xs.length, rfl, .inl ⟨_, SqL.of ht, rfl⟩, d, l, a, xs.length, rfl, hp, ha, by omega, by omega, fun r a' H1 r0 rn g1 g2 p1 b1 => ?_⟩
      obtain ⟨j, hj⟩ := Int.eq_ofNat_of_zero_le r0
      subst hj
      have lt : j < xs.length := by omega
      exact .inl ⟨t, xs, _, _, rfl, rfl, SqL.of (b1 t _ ht td), atI_nat (List.getElem?_eq_getElem lt), k _ a' H1 (List.getElem_mem lt) g1 g2 p1 b1⟩
    · have pos : 0 < z.cps.toList.length := List.length_pos_iff.mpr hx
      have ez : z.length = z.cps.toList.length := by simp [Str.length]
      refine ⟨_, rfl, _, rfl, _, rfl, _, z.length, rfl, ⟨by rw [sizeLine_eq]; omega, rfl⟩, d, l, a, z.length, rfl, hp, ha, by omega, by omega, fun r a' H1 r0 rn g1 g2 p1 b1 => ?_⟩
      obtain ⟨j, hj⟩ := Int.eq_ofNat_of_zero_le r0
      subst hj
      have lt : j < z.cps.toList.length := by omega
      exact .inr (.inr ⟨z, _, _, rfl, rfl, by rw [sizeLine_eq]; omega, atI_nat (List.getElem?_eq_getElem lt), k _ a' H1 (List.getElem_mem lt) g1 g2 p1 b1⟩)
end
end Wd

set_option maxHeartbeats 4000000
namespace Wd
open PySem PySem.Spec PyProof.Rows L2
theorem errC_of {K : PySem.W.Frag} {C : Addr} (h : errB K C = true) (c : clsB K = true) : ErrC K C := by
  obtain ⟨h1, h⟩ := He.ba h
  obtain ⟨h2, h⟩ := He.ba h
  obtain ⟨h3, h⟩ := He.ba h
  obtain ⟨h4, h⟩ := He.ba h
  obtain ⟨h5, h⟩ := He.ba h
  obtain ⟨h6, h7⟩ := He.ba h
  obtain ⟨c1, c2⟩ := He.ba c
  exact ⟨h1, He.eqO_ok h2, He.eqO_ok h3, of_decide_eq_true h4, h5, He.eqO_ok h6, He.eqO_ok c1, of_decide_eq_true c2, of_decide_eq_true h7⟩
theorem oexC_of {K : PySem.W.Frag} {C : Addr} (be : PySem.W.subIn K (.ref C) (.type "BaseException") = some true) (h : oexB K C = true) : OexC K C := by
  obtain ⟨h0, h⟩ := He.ba h
  obtain ⟨h1, h⟩ := He.ba h
  obtain ⟨h2, h3⟩ := He.ba h
  refine ⟨?_, He.eqO_ok h1, be, of_decide_eq_true h2, h3⟩
  split at h0
  · rename_i dd cd sl ho
    split at h0
    · rename_i C' bm k0 k1 k2 k3 n k5 hm hs
      simp only [Bool.and_eq_true, beq_iff_eq, Bool.not_eq_true'] at h0
      obtain ⟨rfl, rfl, hdel, hdict, htail⟩ := h0
      obtain ⟨nm, bs, mro, ns, qn, hd, sn, sub, ab, col, del⟩ := cd
      dsimp only at hm hdel hdict
      subst hm hdel hdict
      have hsl : sl = #[k0, k1, k2, k3, some (.builtin "ValueError.__new__"), k5] := by
        obtain ⟨l⟩ := sl
        simp only at hs
        rw [hs]
      subst hsl
      exact ⟨nm, qn, ns, bs, bm, sn, sub, ab, col, dd, k0, k1, k2, k3, k5, ho, htail⟩
    · cases h0
  · cases h0
/-! ### making an error with a field, and keeping it -/
def spIni (C : Addr) (f : Str) (K : PySem.W.Frag) : Sp := fun vs H Q _ => ∃ (a : Addr) (v : V), vs = [.ref a, v] ∧ H a = some (exo a C none) ∧
  ∀ d, H d = none → d ≠ a → Q .non (upd (upd H d (exd d [(f, v)])) a (exo a C (some d)))
theorem sc_BadText : FnScope ["self", "line"] ["self", "line"] (defScope (inClass (top 2) 0)) := ⟨rfl, rfl, rfl, by decide +kernel, rfl, by decide +kernel, by decide +kernel⟩
theorem ok_BadText {P : Program} {w : World} {K : PySem.W.Frag} {mg : Str → Option Value} {base : Heap} {f C : Addr} {fd : FuncData}
    (F : FunD K "__init__" "BadText.__init__" (defArgs (inClass (top 2) 0)) (defBody (inClass (top 2) 0)) (defScope (inClass (top 2) 0)) [] [] f fd) (T : OexC K C) (n : PySem.W.findIn K (.ref C) "line" = some none) :
    FnOk P w K mg base CX0 1 f fd ["self", "line"] (spIni C "line" K) ∧ Binds K fd ["self", "line"] [] := by
  refine ⟨F.ok sc_BadText (fun vs H Q E h => ?_) (fun cdv A outer s H vs Q E hr h => ?_), F.bindsN fun _ _ _ _ _ _ us hl => match us, hl with | [_, _], _ => rfl⟩
  · obtain ⟨a, v, rfl, _⟩ := h
    rfl
  · obtain ⟨a, v, rfl, ha, k⟩ := h
    exact ⟨_, PSs.nox (pss_one (ps_ost (pv 0) (pv 1))), _, rfl, _, rfl, a, C, rfl, T, n, .inl ⟨ha, fun dx nd ne => k dx nd ne⟩⟩
/-- the class of refusals -/
structure Bt (P : Program) (w : World) (K : PySem.W.Frag) (mg : Str → Option Value) (base : Heap) (C : Addr) : Prop where
  glo : mg "BadText" = some (.ref C)
  oex : OexC K C
  err : ErrC K C
  nof : PySem.W.findIn K (.ref C) "line" = some none
  ini : ∃ fI fd, PySem.W.findIn K (.ref C) "__init__" = some (some (.ref fI)) ∧ PySem.W.typeIn K (.ref fI) = some (.type "function") ∧
    FnOk P w K mg base CX0 1 fI fd ["self", "line"] (spIni C "line" K) ∧ Binds K fd ["self", "line"] []
/-- a refusal of the line 1 is raised -/
def Bad (C : Addr) (H : Hp) (E : XK) : Prop := ∀ d H', Same H H' → H d = none → H' d = some (.xd [("line", .int 1)]) → E (.ref C) (some d) H'
section
variable {X : Cx} {p pos pos2 : Pos}
def tBad (C : Addr) (W : WX) : TS := fun _ σ H => ∀ d H', Same H H' → H d = none → H' d = some (.xd [("line", .int 1)]) → W (.ref C) (some d) σ H'
theorem ps_bad {C : Addr} {W : WX} (hc : X.calm = true) (B : Bt X.prog X.w X.K X.mg X.base C) (hr : Room 2 X.A) (tk : Takes X W) (hg : Gl X "BadText" := by rfl)
    (he : starEach [(.Constant (.int 1) 0 p2)] X.env = (false, eval (.Constant (.int 1) 0 p2) X.env) :: starEach [] X.env := by rfl) (hpl : (backTo pos (starEach [] X.env)).any (·.1) = false := by rfl) :
    PS X (.Raise (some (.Call (.Name "BadText" p) [.Constant (.int 1) 0 p2] [] pos)) none pos2) (tBad C W) := by
  obtain ⟨fI, fd, iC, tI, G, hb⟩ := B.ini
  have R := ps_raise (pos := pos2) hc tk (pmk_oex (p := p) (pos := pos) B.oex iC tI G hr hb .nil pass0 hg B.glo (pa_cons (pe_int (X := X) (i := 1) (j := 0) (pos := p2)) pa_nil) (by decide) he hpl)
  constructor
  intro pins s σ H D I h
  refine R.run pins s σ H D I ?_
  refine ⟨(by show 1 ≤ 1000; decide), fun a ha => ⟨a, .int 1, rfl, upd_same, fun d hd hda => ⟨rfl, d, _, upd_same, by rw [upd_ne hda, upd_same], ?_, ?_⟩⟩⟩
  · rw [upd_ne hda] at hd
    exact hd
  · have hd0 : H d = none := by
      rw [upd_ne hda] at hd
      exact hd
    refine h d _ (fun b o z => ?_) hd0 upd_same
    have n1 := ne_of_none z ha
    have n2 := ne_of_none z hd0
    rw [upd_ne n2, del_ne n1, upd_ne n1, upd_ne n2, upd_ne n1]
    exact z
end
end Wd

set_option maxHeartbeats 4000000
namespace Wd
open PySem PySem.Spec PyProof.Rows L2 Wt TL NumText
structure Tx (K : PySem.W.Frag) (mg : Str → Option Value) : Prop extends TxtP mg where
  str : mg "str" = none
  isinstance : mg "isinstance" = none
  range : mg "range" = none
  bool : mg "bool" = none
  sorted : mg "sorted" = none
  all : mg "all" = none
  any : mg "any" = none
  abs : mg "abs" = none
  ve : mg "ValueError" = none
  KINDS : mg "KINDS" = some (.ref (He.ga K "KINDS"))
  kinds : ∀ H, SqT K H (He.ga K "KINDS") [.str "day", .str "float", .str "zoned", .str "fixed"]
  DAY : ∃ t, mg "DAY" = some (.int 1440 t)
  ML : ∃ t, mg "MOST_LETTERS" = some (.int 12 t)
  cl : Cls K (He.ga K "Entry")
  n1 : NoAttr K (He.ga K "Entry") "text"
  n2 : NoAttr K (He.ga K "Entry") "kind"
  n3 : NoAttr K (He.ga K "Entry") "first"
  n4 : NoAttr K (He.ga K "Entry") "last"
  n5 : NoAttr K (He.ga K "Entry") "zone"
  Entry : mg "Entry" = some (.ref (He.ga K "Entry"))
  cc : PySem.W.findIn K (.ref (He.ga K "Entry")) "__class__" = some (some (.builtin "object.__class__"))
  cg : PySem.W.specialIn K (.builtin "object.__class__") "__get__" = some (some (.builtin "getset_descriptor.__get__"))
  ct : PySem.W.takesIn K (.builtin "object.__class__") = some true
  ob : PySem.W.mroIn K (He.ga K "Entry") (.type "object") = some true
  kt : PySem.W.kitOne K (.ref (He.ga K "Entry")) (.ref (He.ga K "Entry")) = some true
theorem ifB {b : Bool} {A B : Prop} (h : b = true) (a : A) : if b = true then A else B := by rw [if_pos h]; exact a
theorem ifN {b : Bool} {A B : Prop} (h : b = false) (z : B) : if b = true then A else B := by
  rw [h, if_neg Bool.false_ne_true]
  exact z
theorem ifQ {b : Bool} {A B : Prop} (x : b = true → A) (y : b = false → B) : if b = true then A else B := by
  cases b
  · exact ifN rfl (y rfl)
  · exact ifB rfl (x rfl)
def dgV : Option Nat → V
  | none => .non
  | some d => .int d
def oV : Option Int → V
  | none => .non
  | some i => .int i
def oS : Option Str → V
  | none => .non
  | some n => .str n
theorem line_ok {n : Nat} (h : n ≤ 10000) : n ≤ sizeLine := by rw [sizeLine_eq]; omega
def spName : Sp := fun vs H Q _ => ∃ z : Str, vs = [.str z] ∧ z.length ≤ 1000 ∧ ∀ b : Bool, (b = true ↔ nameL (tl z)) → Q (.bl b) H
def spNum : Sp := fun vs H Q _ => ∃ (z : Str) (dg : Option Nat), vs = [.str z, dgV dg] ∧ z.length ≤ 600 ∧ Q (oV (numR dg z)) H
def spIsk : Sp := fun vs H Q _ => ∃ k : Str, vs = [.str k] ∧ ∀ b : Bool, (b = true ↔ k ∈ KS) → Q (.bl b) H
section
variable {P : Program} {w : World} {K : PySem.W.Frag} {mg : Str → Option Value} {base : Heap} {f : Addr} {fd : FuncData}
theorem scNam : FnScope ["value"] ["value"] (defScope (top 6)) := ⟨rfl, rfl, rfl, by decide +kernel, rfl, by decide +kernel, by decide +kernel⟩
theorem ok_nam (F : FnG K "is_name" 6 f fd) (T : Tx K mg) : FnOk P w K mg base CX0 1 f fd ["value"] spName := by
  refine F.ok scNam (fun vs H Q E h => ?_) (fun cdv A outer s H vs Q E hr h => ?_)
  · obtain ⟨z, rfl, _⟩ := h
    rfl
  · obtain ⟨z, rfl, hz, k⟩ := h
    obtain ⟨tM, hML⟩ := T.ML
    have ln : z.length ≤ sizeLine := line_ok (by omega)
    refine ⟨_, PSs.nox (pss_cons (ps_if (PW.pt (pw_or (pt_not (pt_val (pe_callB call_isi (by rfl) T.isinstance (by decide +kernel) (pa_cons (pv 0) (pa_cons (pe_bltn (v := .ty "str") (by rfl) T.str (by decide +kernel) rfl) pa_nil))))) (pw_or1 (pt_cmpR op_gt (pe_callB call_len_str (by rfl) T.len PySem.boot_len (pa_cons (pv 0) pa_nil)) (pe_glob (v := .int 12) rfl hML ⟨_, rfl⟩) (nomark _))))) (pss_one (ps_ret pe_bl)) pss_nil)
        (pss_one (ps_ret (pe_and (pe_m0 PySem.F.slot_str_isascii PySem.F.type_str_isascii mt_isascii (pv 0)) (pe_and (pe_m0 PySem.F.slot_str_isalpha PySem.F.type_str_isalpha mt_isalpha (pv 0)) (pe_one (pe_m0 PySem.F.slot_str_islower PySem.F.type_str_islower mt_islower (pv 0)))))))), ?_⟩
    refine ⟨_, rfl, .str z, .ty "str", .type "str", .type "str", true, rfl, .ty _, .base (.str _), kit_ty (by decide +kernel), true, rfl, ifN rfl ?_⟩
    refine ⟨_, rfl, _, rfl, ln, _, _, rfl, rfl, _, rfl, ifC (fun h => ?_) (fun h => ?_)⟩
    · refine k false ⟨fun e => (by cases e), fun e => ?_⟩
      have h2 := e.2.1
      rw [← len_tl] at h2
      have h3 : (12 : Int) < (z.length : Int) := h
      omega
    · have hlen : (tl z).length ≤ 12 := by
        rw [← len_tl]
        have h3 : ¬ (12 : Int) < (z.length : Int) := h
        omega
      have key := names_ok z
      refine ⟨_, rfl, ⟨_, rfl⟩, _, rfl, rfl, trivial, _, rfl, ifQ (fun h1 => ?_) (fun h1 => ?_)⟩
      · refine ⟨_, rfl, ⟨_, rfl⟩, _, rfl, rfl, trivial, _, rfl, ifQ (fun h2 => ?_) (fun h2 => ?_)⟩
        · refine ⟨_, rfl, ⟨_, rfl⟩, _, rfl, rfl, trivial, k _ ?_⟩
          rw [h1, h2, Bool.true_and, Bool.true_and] at key
          rw [key]
          exact ⟨fun e => ⟨e.1, hlen, e.2⟩, fun e => ⟨e.1, e.2.2⟩⟩
        · refine k false ⟨fun e => (by cases e), fun e => ?_⟩
          have := key.mpr ⟨e.1, e.2.2⟩
          rw [h2] at this
          simp at this
      · refine k false ⟨fun e => (by cases e), fun e => ?_⟩
        have := key.mpr ⟨e.1, e.2.2⟩
        rw [h1] at this
        simp at this
theorem scNum : FnScope ["word", "digits", "figures"] ["word", "digits"] (defScope (top 7)) := ⟨rfl, rfl, rfl, by decide +kernel, rfl, by decide +kernel, by decide +kernel⟩
theorem figL_len : ∀ l : List Nat, (figL l).length ≤ l.length
  | [] => Nat.le_refl _
  | c :: r => by
    show (if c = 45 then r else c :: r).length ≤ _
    split
    · rw [List.length_cons]; omega
    · exact Nat.le_refl _
theorem one_eq (c : Nat) : ((⟨#[c]⟩ : Str) = "0") ↔ c = 48 := by
  have e : ("0" : Str) = ⟨#[48]⟩ := by decide +kernel
  rw [e]
  constructor
  · intro h
    have := congrArg tl h
    simpa [tl] using this
  · rintro rfl
    rfl
theorem ok_num (F : FunD K "number_in" "number_in" (defArgs (top 7)) (defBody (top 7)) (defScope (top 7)) [.int 30] [] f fd) (T : Tx K mg) : FnOk P w K mg base CX0 1 f fd ["word", "digits"] spNum := by
  refine F.ok scNum (fun vs H Q E h => ?_) (fun cdv A outer s H vs Q E hr h => ?_)
  · obtain ⟨z, dg, rfl, _⟩ := h
    rfl
  · obtain ⟨z, dg, rfl, hz, k⟩ := h
    have ft := fig_tl z
    have fl : (fig z).length ≤ 1000 := by
      rw [len_tl, ft]
      rw [len_tl] at hz
      have := figL_len (tl z)
      omega
    have none_ : ¬ (numOk z ∧ fits dg z) → Q .non H := fun h => by
      have e : numR dg z = none := by
        unfold numR
        rw [if_neg h]
      rw [e] at k
      exact k
    refine ⟨_, PSs.nox (pss_cons (ps_set (i := 2) scNum.nd rfl (Or.inl rfl) (pe_m1 PySem.F.slot_str_removeprefix PySem.F.type_str_removeprefix mt_removeprefix (pv 0) pe_str))
        (pss_cons (ps_if (pt_not (PW.pt (pw_and (pt_val (pe_m0 PySem.F.slot_str_isascii PySem.F.type_str_isascii mt_isascii (pv 2))) (pw_and1 (pt_val (pe_m0 PySem.F.slot_str_isdigit PySem.F.type_str_isdigit mt_isdigit (pv 2))))))) (pss_one (ps_ret pe_non)) pss_nil)
        (pss_cons (ps_if (PW.pt (pw_and (pt_cmpR op_eq (pe_ix ix_str (pv 2) pe_int (fun _ _ => rfl)) pe_str (nomark _)) (pw_and1 (pt_cmpR op_ne (pv 0) pe_str (nomark _))))) (pss_one (ps_ret pe_non)) pss_nil)
        (pss_cons (ps_if (PW.pt (pw_and (pt_cmpR op_notN (pv 1) pe_non (nomark _)) (pw_and1 (pt_cmpR op_gt (pe_callB call_len_str (by rfl) T.len PySem.boot_len (pa_cons (pv 2) pa_nil)) (pv 1) (nomark _))))) (pss_one (ps_ret pe_non)) pss_nil)
        (pss_one (ps_ret (pe_callTy call_int_str (by rfl) T.int (by decide +kernel) (pa_cons (pv 0) pa_nil)))))))), ?_⟩
    refine ⟨_, rfl, ⟨_, rfl⟩, _, _, rfl, rfl, line_ok (by omega), ?_⟩
    have key := digits_ok (fig z)
    rw [ft] at key
    refine ⟨_, rfl, ⟨_, rfl⟩, _, rfl, rfl, trivial, _, rfl, ifQ (fun h1 => ?_) (fun h1 => ?_)⟩
    rotate_left
    · refine ifB (by rfl) ?_
      refine none_ fun h => ?_
      have := key.mpr ⟨h.1.1.1, h.1.1.2.1⟩
      unfold fig at this
      rw [h1] at this
      simp at this
    refine ⟨_, rfl, ⟨_, rfl⟩, _, rfl, rfl, trivial, _, rfl, ifQ (fun h2 => ?_) (fun h2 => ?_)⟩
    · refine none_ fun h => ?_
      have := key.mpr ⟨h.1.1.1, h.1.1.2.1⟩
      have h2' : (!Txt.isdigit (fig z)) = true := h2
      rw [Bool.and_eq_true] at this
      rw [this.2] at h2'
      cases h2'
    have h2' : (!Txt.isdigit (fig z)) = false := h2
    have hd := key.mp (by
      have h1' : Txt.isascii (fig z) = true := h1
      rw [h1', Bool.true_and]
      simpa using h2')
    obtain ⟨c, r, hc⟩ := List.exists_cons_of_ne_nil hd.1
    have at0 : atI (fig z).cps.toList 0 = some c := by
      have e : (fig z).cps.toList = c :: r := ft.trans hc
      rw [e]
      exact atI_nat (j := 0) rfl
    have lnf : (fig z).length ≤ sizeLine := line_ok (by omega)
    by_cases nk : numOk z
    · have okF : fits dg z → Q (.int (numV (tl z))) H := fun hf => by
        have e : numR dg z = some (numV (tl z)) := by
          unfold numR
          rw [if_pos ⟨nk, hf⟩]
        rw [e] at k
        exact k
      by_cases h48 : c = 48
      all_goals first
        | (have zz : z = "0" := by
             have e1 := nk.2 (nk.1.2.2 (by rw [hc, h48]; rfl))
             refine ext_tl ?_
             rw [e1]
             exact zero1.symm
           refine ⟨_, rfl, _, _, c, rfl, rfl, lnf, at0, rfl, _, rfl, ifT (congrArg V.str ((one_eq c).mpr h48)) ?_⟩
           refine ⟨_, rfl, rfl, _, rfl, ifN (by rw [decide_eq_true (congrArg V.str zz)]; rfl) ?_⟩)
        | (refine ⟨_, rfl, _, _, c, rfl, rfl, lnf, at0, rfl, _, rfl, ifF (fun e => h48 ((one_eq c).mp (V.str.inj e))) ?_⟩
           refine iteF ?_)
      all_goals
        cases dg with
        | none =>
          refine ⟨_, rfl, rfl, _, rfl, ifN rfl (iteF ?_)⟩
          exact ⟨_, rfl, _, _, rfl, num_int nk (by omega), by omega, okF fun d hd => by cases hd⟩
        | some d =>
          refine ⟨_, rfl, rfl, _, rfl, ifB rfl ?_⟩
          refine ⟨_, rfl, _, rfl, lnf, _, rfl, _, _, rfl, rfl, _, rfl, ifC (fun h5 => ?_) (fun h5 => ?_)⟩
          · refine none_ fun e => ?_
            have h6 := e.2 d rfl
            rw [← ft, ← len_tl] at h6
            have h7 : (d : Int) < ((fig z).length : Int) := h5
            omega
          · refine ⟨_, rfl, _, _, rfl, num_int nk (by omega), by omega, okF fun d' hd => ?_⟩
            have h7 : ¬ (d : Int) < ((fig z).length : Int) := h5
            cases hd
            rw [← ft, ← len_tl]
            omega
    · have c48 : c = 48 ∧ ¬ z = "0" := by
        refine ⟨Classical.byContradiction fun h => nk ⟨⟨hd.1, hd.2, fun e => ?_⟩, fun e => ?_⟩, fun h => nk ?_⟩
        · rw [hc] at e
          exact absurd (Option.some.inj e) h
        · rw [hc] at e
          exact absurd (List.cons.inj e).1 h
        · rw [h]
          have e1 := num_str 0
          have e2 : strI 0 = "0" := by decide +kernel
          rw [e2] at e1
          exact e1.1
      refine ⟨_, rfl, _, _, c, rfl, rfl, lnf, at0, rfl, _, rfl, ifT (congrArg V.str ((one_eq c).mpr c48.1)) ?_⟩
      refine ⟨_, rfl, rfl, _, rfl, ifB (by rw [decide_eq_false fun e => c48.2 (V.str.inj e)]; rfl) ?_⟩
      exact none_ fun e => nk e.1
end
end Wd

set_option maxHeartbeats 4000000
namespace Wd
open PySem PySem.Spec PyProof.Rows L2 Wt TL NumText
theorem in_ks (k : Str) : inV (.str k) [.str "day", .str "float", .str "zoned", .str "fixed"] = true ↔ k ∈ KS := by
  simp only [inV, List.any_cons, List.any_nil, eqV, KS, List.mem_cons, List.not_mem_nil, or_false, Bool.or_eq_true, Bool.or_false, decide_eq_true_eq, beq_iff_eq]
  constructor
  · rintro (h | h | h | h) <;> simp [← h]
  · rintro (h | h | h | h) <;> simp [h]
theorem nf {b : Bool} (h : (!b) = false) : b = true := by
  cases b
  · cases h
  · rfl
theorem shape {ws : List Str} (hne : ws ≠ []) {k : Str} (hk : ws.head? = some k) (hl : (ws.length : Int) = if k = "zoned" then 5 else 4) :
    ∃ x t y o, ws = [k, x, t, y] ++ Option.toList o ∧ (Option.isSome o = true ↔ k = "zoned") := by
  obtain ⟨a, r, rfl⟩ := List.exists_cons_of_ne_nil hne
  have e : a = k := by simpa using hk
  subst e
  by_cases h : a = "zoned"
  · rw [if_pos h] at hl
    match r, hl with
    | [x, t, y, n], _ => exact ⟨x, t, y, some n, rfl, by simp [h]⟩
    | [], hl => simp at hl
    | [_], hl => simp at hl
    | [_, _], hl => simp at hl
    | [_, _, _], hl => simp at hl
    | _ :: _ :: _ :: _ :: _ :: r, hl => simp only [List.length_cons] at hl; omega
  · rw [if_neg h] at hl
    match r, hl with
    | [x, t, y], _ => exact ⟨x, t, y, none, rfl, by simp [h]⟩
    | [], hl => simp at hl
    | [_], hl => simp at hl
    | [_, _], hl => simp at hl
    | _ :: _ :: _ :: _ :: r, hl => simp only [List.length_cons] at hl; omega
def spParts (C : Addr) : Sp := fun vs H Q E => ∃ (l : Addr) (ws : List Str) (dg : Option Nat), vs = [.ref l, dgV dg] ∧ H l = some (.lst (ws.map V.str)) ∧ ws ≠ [] ∧ ws.length ≤ 1000 ∧ (∀ z ∈ ws, z.length ≤ 600) ∧
  (∀ k a b o, RdW dg ws k a b o → ∀ p, H p = none → Q (.ref p) (upd H p (.tup [.str k, .int a, .int b, oS o]))) ∧ ((∀ k a b o, ¬ RdW dg ws k a b o) → Bad C H E)
section
variable {P : Program} {w : World} {K : PySem.W.Frag} {mg : Str → Option Value} {base : Heap} {f : Addr} {fd : FuncData}
theorem scIsk : FnScope ["value"] ["value"] (defScope (top 13)) := ⟨rfl, rfl, rfl, by decide +kernel, rfl, by decide +kernel, by decide +kernel⟩
theorem ok_isk (F : FnG K "is_kind" 13 f fd) (T : Tx K mg) : FnOk P w K mg base CX0 1 f fd ["value"] spIsk := by
  refine F.ok scIsk (fun vs H Q E h => ?_) (fun cdv A outer s H vs Q E hr h => ?_)
  · obtain ⟨z, rfl, _⟩ := h
    rfl
  · obtain ⟨z, rfl, k⟩ := h
    refine ⟨_, PSs.nox (pss_one (ps_ret (pe_and (pe_callB call_isi (by rfl) T.isinstance (by decide +kernel) (pa_cons (pv 0) (pa_cons (pe_bltn (v := .ty "str") (by rfl) T.str (by decide +kernel) rfl) pa_nil))) (pe_one (pe_cmpR op_in_seq (pv 0) (pe_glob (v := .ref (He.ga K "KINDS")) rfl T.KINDS rfl) (by rfl)))))), ?_⟩
    refine ⟨_, rfl, .str z, .ty "str", .type "str", .type "str", true, rfl, .ty _, .base (.str _), kit_ty (by decide +kernel), true, rfl, iteT ?_⟩
    exact ⟨_, rfl, _, _, rfl, .inr (T.kinds H), rfl, rfl, k _ (in_ks z)⟩
structure DParts (P : Program) (w : World) (K : PySem.W.Frag) (mg : Str → Option Value) (base : Heap) : Prop where
  number_in : Df P w K mg base CX0 1 "number_in" ["word", "digits"] spNum
  is_kind : Df P w K mg base CX0 1 "is_kind" ["value"] spIsk
  is_name : Df P w K mg base CX0 1 "is_name" ["value"] spName
theorem scParts : FnScope ["words", "digits", "kind", "first", "last"] ["words", "digits"] (defScope (top 15)) := ⟨rfl, rfl, rfl, by decide +kernel, rfl, by decide +kernel, by decide +kernel⟩
theorem ok_parts {C : Addr} (F : FnG K "_parts" 15 f fd) (T : Tx K mg) (D : DParts P w K mg base) (B : Bt P w K mg base C) : FnOk P w K mg base (L2.CX P w) 3 f fd ["words", "digits"] (spParts C) := by
  refine F.ok scParts (fun vs H Q E h => ?_) (fun cdv A outer s H vs Q E hr h => ?_)
  · obtain ⟨l, ws, dg, rfl, _⟩ := h
    rfl
  · obtain ⟨l, ws, dg, rfl, hl, hne, hc, hz, good, bad⟩ := h
    have hr2 : Room 2 (A.deeper (envOfC "_parts" (defScope (top 15)) s.heap.objs.size f cdv)) := hr
    refine ⟨_, (pss_cons (ps_set (i := 2) scParts.nd rfl (Or.inl rfl) (pe_ix ix_list (pv 0) pe_int (fun _ _ => rfl)))
        (pss_cons (ps_if (PW.pt (pw_or (pt_not (pt_val (pe_cd D.is_kind (hr.mono (by decide)) pass0 (pa_cons (pv 2) pa_nil)))) (pw_or1 (pt_cmpR op_ne (pe_callB call_len (by rfl) T.len PySem.boot_len (pa_cons (pv 0) pa_nil)) (pe_ifExp (pt_cmpR op_eq (pv 2) pe_str (nomark _)) pe_int pe_int) (nomark _))))) (pss_one (ps_bad rfl B hr2 (takes_of rfl rfl rfl rfl))) pss_nil)
        (pss_cons (ps_set (i := 3) scParts.nd rfl (Or.inl rfl) (pe_cd D.number_in (hr.mono (by decide)) pass0 (pa_cons (pe_ix ix_list (pv 0) pe_int (fun _ _ => rfl)) (pa_cons (pv 1) pa_nil))))
        (pss_cons (ps_set (i := 4) scParts.nd rfl (Or.inl rfl) (pe_cd D.number_in (hr.mono (by decide)) pass0 (pa_cons (pe_ix ix_list (pv 0) pe_int (fun _ _ => rfl)) (pa_cons (pv 1) pa_nil))))
        (pss_cons (ps_if (PW.pt (pw_or (pt_cmpR op_ne (pe_ix ix_list (pv 0) pe_int (fun _ _ => rfl)) pe_str (nomark _)) (pw_or (pt_cmpR op_isN (pv 3) pe_non (nomark _)) (pw_or (pt_cmpR op_isN (pv 4) pe_non (nomark _)) (pw_or1 (pt_cmpR op_gt (pv 3) (pv 4) (nomark _))))))) (pss_one (ps_bad rfl B hr2 (takes_of rfl rfl rfl rfl))) pss_nil)
        (pss_cons (ps_if (pt_cmpR op_ne (pv 2) pe_str (nomark _)) (pss_one (ps_ret (pe_tup (pa_cons (pv 2) (pa_cons (pv 3) (pa_cons (pv 4) (pa_cons pe_non pa_nil))))))) pss_nil)
        (pss_cons (ps_if (pt_not (pt_val (pe_cd D.is_name (hr.mono (by decide)) pass0 (pa_cons (pe_ix ix_list (pv 0) pe_int (fun _ _ => rfl)) pa_nil)))) (pss_one (ps_bad rfl B hr2 (takes_of rfl rfl rfl rfl))) pss_nil)
        (pss_one (ps_ret (pe_tup (pa_cons (pv 2) (pa_cons (pv 3) (pa_cons (pv 4) (pa_cons (pe_ix ix_list (pv 0) pe_int (fun _ _ => rfl)) pa_nil)))))))))))))), ?_⟩
    obtain ⟨k, r, hw⟩ := List.exists_cons_of_ne_nil hne
    have h0 : ws.head? = some k := by rw [hw]; rfl
    have i0 : atI (ws.map V.str) 0 = some (.str k) := atI_nat (j := 0) (by rw [hw]; rfl)
    refine ⟨_, rfl, l, _, _, _, rfl, rfl, SqL.of hl, i0, ?_⟩
    refine ⟨_, rfl, k, rfl, fun b hb => ⟨b, rfl, ?_⟩⟩
    have bad1 : ¬ (k ∈ KS) → Bad C H E := fun h => bad fun k' a b o q => h (by
      have := q.sp
      rw [hw] at this
      rw [(List.cons.inj this).1]
      exact q.kin)
    refine ifQ (fun h1 => ?_) (fun h1 => ?_)
    · refine bad1 fun hk => ?_
      rw [hb.mpr hk] at h1
      cases h1
    have hk : k ∈ KS := hb.mp (by simpa using h1)
    have bad2 : (ws.length : Int) ≠ (if k = "zoned" then 5 else 4) → Bad C H E := fun h => bad fun k' a b o q => h (by
      have e := q.sp
      have ek : k = k' := by
        rw [hw] at e
        exact (List.cons.inj e).1
      have el := congrArg List.length e
      rw [ek]
      cases o with
      | none =>
        rw [if_neg fun z => by
          have := q.zo.mpr z
          cases this]
        simp only [Option.toList, List.append_nil, List.length_cons, List.length_nil] at el
        omega
      | some n =>
        rw [if_pos (q.zo.mp rfl)]
        simp only [Option.toList, List.length_append, List.length_cons, List.length_nil] at el
        omega)
    refine ⟨_, rfl, _, ws.length, rfl, .inl ⟨_, SqL.of hl, by rw [List.length_map]⟩, _, rfl, rfl, _, rfl, ifC (fun hzo => ?_) (fun hzo => ?_)⟩
    all_goals
      refine ⟨rfl, _, rfl, ifQ (fun h2 => ?_) (fun h2 => ?_)⟩
      · refine bad2 fun e => ?_
        first
          | rw [if_pos (V.str.inj hzo)] at e
          | rw [if_neg fun z => hzo (congrArg V.str z)] at e
        rw [e] at h2
        simp at h2
      have hl2 : (ws.length : Int) = if k = "zoned" then 5 else 4 := by
        have e := of_decide_eq_true (nf h2)
        first
          | rw [if_pos (V.str.inj hzo)]
          | rw [if_neg fun z => hzo (congrArg V.str z)]
        exact V.int.inj e
      obtain ⟨x, t, y, o, hw2, hzk⟩ := shape hne h0 hl2
      clear hw h0 i0 bad1 bad2 h2
      subst hw2
      have lx := hz x (by simp)
      have ly := hz y (by simp)
      have un : ∀ k' a b o', RdW dg ([k, x, t, y] ++ o.toList) k' a b o' → x = strI a ∧ t = "to" ∧ y = strI b ∧ o = o' := fun k' a b o' q => by
        have e := q.sp
        simp only [List.cons_append, List.nil_append, List.cons.injEq] at e
        obtain ⟨_, e2, e3, e4, e5⟩ := e
        refine ⟨e2, e3, e4, ?_⟩
        cases o <;> cases o' <;> simp_all
      refine ⟨_, rfl, l, _, _, _, rfl, rfl, SqL.of hl, atI_nat (j := 1) rfl, _, rfl, x, dg, rfl, lx, ?_⟩
      refine ⟨_, rfl, l, _, _, _, rfl, rfl, SqL.of hl, atI_nat (j := 3) rfl, _, rfl, y, dg, rfl, ly, ?_⟩
      refine ⟨_, rfl, l, _, _, _, rfl, rfl, SqL.of hl, atI_nat (j := 2) rfl, rfl, _, rfl, ifQ (fun h3 => ?_) (fun h3 => ?_)⟩
      · refine bad fun k' a b o' q => ?_
        obtain ⟨_, e, _⟩ := un k' a b o' q
        rw [e] at h3
        simp at h3
      have et : t = "to" := V.str.inj (of_decide_eq_true (nf h3))
      cases hx : numR dg x with
      | none =>
        refine ⟨_, rfl, rfl, _, rfl, ifB rfl (bad fun k' a b o' q => ?_)⟩
        have e := numR_str q.fa
        rw [← (un k' a b o' q).1, hx] at e
        cases e
      | some a =>
        refine ⟨_, rfl, rfl, _, rfl, ifN rfl ?_⟩
        cases hy : numR dg y with
        | none =>
          refine ⟨_, rfl, rfl, _, rfl, ifB rfl (bad fun k' a b o' q => ?_)⟩
          have e := numR_str q.fb
          rw [← (un k' a b o' q).2.2.1, hy] at e
          cases e
        | some b =>
          obtain ⟨exa, fa⟩ := numR_some hx
          obtain ⟨eyb, fb⟩ := numR_some hy
          refine ⟨_, rfl, rfl, _, rfl, ifN rfl ?_⟩
          refine ⟨_, rfl, _, rfl, _, _, rfl, rfl, _, rfl, ifC (fun h5 => bad fun k' a' b' o' q => ?_) (fun h5 => ?_)⟩
          · obtain ⟨u1, _, u3, _⟩ := un k' a' b' o' q
            have := q.le
            rw [exa] at u1
            rw [eyb] at u3
            have e1 := strI_inj u1
            have e2 := strI_inj u3
            have h5' : b < a := h5
            omega
          have hab : a ≤ b := Int.not_lt.mp h5
          refine ⟨_, rfl, rfl, _, rfl, ifQ (fun h6 => ?_) (fun h6 => ?_)⟩
          · have hk6 : ¬ k = "zoned" := fun z => by
              rw [z] at h6
              simp at h6
            have ho : o = none := by
              cases o with
              | none => rfl
              | some n => exact absurd (hzk.mp rfl) hk6
            subst ho
            exact ⟨_, rfl, _, rfl, _, rfl, (by show 4 ≤ sizeLine; decide), fun p hp => good k a b none ⟨by rw [exa, et, eyb], hk, hzk, fa, fb, hab, fun n e => by cases e⟩ p hp⟩
          · have hk6 : k = "zoned" := V.str.inj (of_decide_eq_true (nf h6))
            obtain ⟨n, ho⟩ := Option.isSome_iff_exists.mp (hzk.mpr hk6)
            subst ho
            refine ⟨_, rfl, l, _, _, _, rfl, rfl, SqL.of hl, atI_nat (j := 4) rfl, n, rfl, by have := hz n (by simp); omega, fun c hcn => ⟨c, rfl, ifQ (fun h7 => bad fun k' a' b' o' q => ?_) (fun h7 => ?_)⟩⟩
            · have u4 := (un k' a' b' o' q).2.2.2
              have := hcn.mpr (q.nm n u4.symm)
              rw [this] at h7
              cases h7
            · have hn : nameL (tl n) := hcn.mp (by simpa using h7)
              exact ⟨_, rfl, _, rfl, _, rfl, _, rfl, l, _, _, _, rfl, rfl, SqL.of hl, atI_nat (j := 4) rfl, (by show 4 ≤ sizeLine; decide), fun p hp => good k a b (some n) ⟨by rw [exa, et, eyb], hk, hzk, fa, fb, hab, fun m e => by cases e; exact hn⟩ p hp⟩
end
end Wd

set_option maxHeartbeats 4000000
namespace Wd
open PySem PySem.Spec PyProof.Rows L2 Wt TL NumText
def eFs (z k : Str) (a b : Int) (o : Option Str) : List (Str × V) := putF "zone" (oS o) (putF "last" (.int b) (putF "first" (.int a) (putF "kind" (.str k) (putF "text" (.str z) []))))
/-- at x an entry -/
def EntA (C x : Addr) (z k : Str) (a b : Int) (o : Option Str) (H : Hp) : Prop := ∃ dx, H x = some (.ins C dx (eFs z k a b o))
section
variable {z k : Str} {a b : Int} {o : Option Str}
theorem lk_text : (eFs z k a b o).lookup ("text" : Str) = some (.str z) := by
  unfold eFs
  rw [lookup_putF, if_neg (by decide +kernel), lookup_putF, if_neg (by decide +kernel), lookup_putF, if_neg (by decide +kernel), lookup_putF, if_neg (by decide +kernel), lookup_putF, if_pos rfl]
theorem lk_kind : (eFs z k a b o).lookup ("kind" : Str) = some (.str k) := by
  unfold eFs
  rw [lookup_putF, if_neg (by decide +kernel), lookup_putF, if_neg (by decide +kernel), lookup_putF, if_neg (by decide +kernel), lookup_putF, if_pos rfl]
theorem lk_first : (eFs z k a b o).lookup ("first" : Str) = some (.int a) := by
  unfold eFs
  rw [lookup_putF, if_neg (by decide +kernel), lookup_putF, if_neg (by decide +kernel), lookup_putF, if_pos rfl]
theorem lk_last : (eFs z k a b o).lookup ("last" : Str) = some (.int b) := by
  unfold eFs
  rw [lookup_putF, if_neg (by decide +kernel), lookup_putF, if_pos rfl]
theorem lk_zone : (eFs z k a b o).lookup ("zone" : Str) = some (oS o) := by
  unfold eFs
  rw [lookup_putF, if_pos rfl]
end
theorem EntA.same {C x : Addr} {z k : Str} {a b : Int} {o : Option Str} {H H' : Hp} (s : Same H H') (h : EntA C x z k a b o H) : EntA C x z k a b o H' := by
  obtain ⟨dx, e⟩ := h
  exact ⟨dx, s _ _ e⟩
theorem Bad.mono {C : Addr} {H H' : Hp} {E : XK} (s : Same H H') (h : Bad C H E) : Bad C H' E := fun d H2 s2 hd e => h d H2 (s.trans s2) (Same.free s hd) e
/-- a value that is no text -/
def NoText (K : PySem.W.Frag) (H : Hp) (v : V) : Prop := ∃ t, TyX K H v t ∧ PySem.W.kitOne K t (.type "str") = some false
def spEnt (K : PySem.W.Frag) (C CB : Addr) : Sp := fun vs H Q E => ∃ (x dx : Addr) (v : V) (dg : Option Nat), vs = [.ref x, v, dgV dg] ∧ H x = some (.ins C dx []) ∧
  ((∃ z : Str, v = .str z ∧ z.length ≤ 600 ∧ (∀ k a b o, RdW dg (words z) k a b o → ∀ H', (∀ c u, H c = some u → c ≠ x → H' c = some u) → EntA C x z k a b o H' → Q .non H') ∧
      ((∀ k a b o, ¬ RdW dg (words z) k a b o) → Bad CB H E)) ∨ (NoText K H v ∧ Bad CB H E))
def spEq (C : Addr) (K : PySem.W.Frag) : Sp := fun vs H Q _ => ∃ (x : Addr) (z k : Str) (a b : Int) (o : Option Str) (v : V), vs = [.ref x, v] ∧ EntA C x z k a b o H ∧
  ((∃ y z' k' a' b' o', v = .ref y ∧ EntA C y z' k' a' b' o' H ∧ Q (.bl (decide (z = z'))) H) ∨ ∃ t, TyX K H v t ∧ PySem.W.kitOne K t (.ref C) = some false ∧ Q (.bl false) H)
section
variable {P : Program} {w : World} {K : PySem.W.Frag} {mg : Str → Option Value} {base : Heap} {f : Addr} {fd : FuncData}
structure DEnt (P : Program) (w : World) (K : PySem.W.Frag) (mg : Str → Option Value) (base : Heap) (C : Addr) : Prop where
  parts : Df P w K mg base (L2.CX P w) 3 "_parts" ["words", "digits"] (spParts C)
theorem scEnt : FnScope ["self", "text", "digits", "kind", "first", "last", "zone"] ["self", "text", "digits"] (defScope (inClass (top 11) 0)) := ⟨rfl, rfl, rfl, by decide +kernel, rfl, by decide +kernel, by decide +kernel⟩
theorem ok_ent {CB : Addr} (F : FunD K "__init__" "Entry.__init__" (defArgs (inClass (top 11) 0)) (defBody (inClass (top 11) 0)) (defScope (inClass (top 11) 0)) [] [("digits", .int 30)] f fd) (T : Tx K mg) (D : DEnt P w K mg base CB) (B : Bt P w K mg base CB) :
    FnOk P w K mg base (L2.CX P w) 4 f fd ["self", "text", "digits"] (spEnt K (He.ga K "Entry") CB) := by
  refine F.ok scEnt (fun vs H Q E h => ?_) (fun cdv A outer s H vs Q E hr h => ?_)
  · obtain ⟨x, dx, v, dg, rfl, _⟩ := h
    rfl
  · obtain ⟨x, dx, v, dg, rfl, hx, h⟩ := h
    have hr2 : Room 2 (A.deeper (envOfC "Entry.__init__" (defScope (inClass (top 11) 0)) s.heap.objs.size f cdv)) := hr.mono (by decide)
    refine ⟨_, (pss_cons (ps_if (pt_not (pt_val (pe_callB call_isi (by rfl) T.isinstance (by decide +kernel) (pa_cons (pv 1) (pa_cons (pe_bltn (v := .ty "str") (by rfl) T.str (by decide +kernel) rfl) pa_nil))))) (pss_one (ps_bad rfl B hr2 (takes_of rfl rfl rfl rfl))) pss_nil)
        (pss_cons (ps_asg (pe_cd D.parts (hr.mono (by decide)) (passes_call (takes_of rfl rfl rfl rfl) (fun _ _ _ _ h => h)) (pa_cons (pe_split (pv 1) pe_str) (pa_cons (pv 2) pa_nil))) (pg_tup rfl (pgs_cons (pg_name (i := 3) scEnt.nd rfl (Or.inl rfl)) (pgs_cons (pg_name (i := 4) scEnt.nd rfl (Or.inl rfl)) (pgs_cons (pg_name (i := 5) scEnt.nd rfl (Or.inl rfl)) (pgs_cons (pg_name (i := 6) scEnt.nd rfl (Or.inl rfl)) pgs_nil))))))
        (pss_cons (ps_fld (pv 0) (pv 1) rfl)
        (pss_cons (ps_fld (pv 0) (pv 3) rfl)
        (pss_cons (ps_fld (pv 0) (pv 4) rfl)
        (pss_cons (ps_fld (pv 0) (pv 5) rfl)
        (pss_one (ps_fld (pv 0) (pv 6) rfl)))))))), ?_⟩
    rcases h with ⟨z, rfl, hz, good, bad⟩ | ⟨⟨t, ty, kt⟩, bad⟩
    rotate_left
    · exact ⟨_, rfl, v, .ty "str", t, .type "str", false, rfl, .ty _, ty, kt, false, rfl, ifB rfl bad⟩
    refine ⟨_, rfl, .str z, .ty "str", .type "str", .type "str", true, rfl, .ty _, .base (.str _), kit_ty (by decide +kernel), true, rfl, ifN rfl ?_⟩
    refine ⟨_, rfl, ⟨_, rfl⟩, _, _, rfl, rfl, (by decide +kernel), (by rw [sizeLine_eq]; omega), fun l hl => ?_⟩
    have sl : Same H (upd H l (.lst ((Txt.split z " ").map V.str))) := same_upd hl
    refine ⟨_, rfl, l, words z, dg, rfl, upd_same, words_ne z, (by have := words_count z; omega), (fun q hq => by have := words_len hq; omega), fun k a b o rd p hp => ?_, fun no => (bad no).mono sl⟩
    have sp : Same H (upd (upd H l (.lst ((Txt.split z " ").map V.str))) p (.tup [.str k, .int a, .int b, oS o])) := sl.trans (same_upd hp)
    have h2 := sp _ _ hx
    have ht : (upd (upd H l (.lst ((Txt.split z " ").map V.str))) p (.tup [.str k, .int a, .int b, oS o])) p = some (.tup [.str k, .int a, .int b, oS o]) := upd_same
    refine ⟨p, _, rfl, SqT.of ht, rfl, ?_⟩
    generalize upd (upd H l (.lst ((Txt.split z " ").map V.str))) p (.tup [.str k, .int a, .int b, oS o]) = H2 at h2 sp ⊢
    refine ⟨_, _, rfl, ⟨_, _, rfl, ⟨_, _, rfl, ⟨_, _, rfl, rfl, ?_⟩⟩⟩⟩
    refine ⟨_, rfl, _, rfl, x, _, dx, _, rfl, h2, T.cl, T.n1, (by show 0 < 1000; decide), ?_⟩
    refine ⟨_, rfl, _, rfl, x, _, dx, _, rfl, upd_same, T.cl, T.n2, (by show 1 < 1000; decide), ?_⟩
    refine ⟨_, rfl, _, rfl, x, _, dx, _, rfl, upd_same, T.cl, T.n3, (by show 2 < 1000; decide), ?_⟩
    refine ⟨_, rfl, _, rfl, x, _, dx, _, rfl, upd_same, T.cl, T.n4, (by show 3 < 1000; decide), ?_⟩
    refine ⟨_, rfl, _, rfl, x, _, dx, _, rfl, upd_same, T.cl, T.n5, (by show 4 < 1000; decide), ?_⟩
    refine good k a b o rd _ (fun c u q n => ?_) ⟨dx, upd_same⟩
    rw [upd_ne n, upd_ne n, upd_ne n, upd_ne n, upd_ne n]
    exact sp c u q
theorem scEq : FnScope ["self", "other"] ["self", "other"] (defScope (inClass (top 11) 1)) := ⟨rfl, rfl, rfl, by decide +kernel, rfl, by decide +kernel, by decide +kernel⟩
theorem ok_eq (F : FunD K "__eq__" "Entry.__eq__" (defArgs (inClass (top 11) 1)) (defBody (inClass (top 11) 1)) (defScope (inClass (top 11) 1)) [] [] f fd) (T : Tx K mg) :
    FnOk P w K mg base CX0 1 f fd ["self", "other"] (spEq (He.ga K "Entry") K) := by
  refine F.ok scEq (fun vs H Q E h => ?_) (fun cdv A outer s H vs Q E hr h => ?_)
  · obtain ⟨x, z, k, a, b, o, v, rfl, _⟩ := h
    rfl
  · obtain ⟨x, z, k, a, b, o, v, rfl, ⟨dx, hx⟩, h⟩ := h
    refine ⟨_, PSs.nox (pss_one (ps_ret (pe_and (pe_callB call_isi (by rfl) T.isinstance (by decide +kernel) (pa_cons (pv 1) (pa_cons (pe_glob (v := .ref (He.ga K "Entry")) rfl T.Entry rfl) pa_nil))) (pe_one (pe_cmpR op_eq (pe_fld (pv 0) rfl) (pe_fld (pv 1) rfl) (nomark _)))))), ?_⟩
    rcases h with ⟨y, z', k', a', b', o', rfl, ⟨dy, hy⟩, q⟩ | ⟨t, ty, kt, q⟩
    · refine ⟨_, rfl, .ref y, .ref (He.ga K "Entry"), .ref (He.ga K "Entry"), .ref (He.ga K "Entry"), true, rfl, .own _, .base (.ins hy T.cl T.cc T.cg T.ct T.ob), T.kt, true, rfl, iteT ?_⟩
      refine ⟨_, rfl, x, _, dx, _, _, rfl, hx, T.cl, T.n1, lk_text, _, rfl, y, _, dy, _, _, rfl, hy, T.cl, T.n1, lk_text, rfl, ?_⟩
      have e : decide (V.str z = V.str z') = decide (z = z') := decide_eq_decide.mpr ⟨fun e => V.str.inj e, fun e => by rw [e]⟩
      rw [e]
      exact q
    · exact ⟨_, rfl, v, .ref (He.ga K "Entry"), t, .ref (He.ga K "Entry"), false, rfl, .own _, ty, kt, false, rfl, iteF q⟩
end
end Wd

set_option maxHeartbeats 4000000
namespace Wd
open PySem PySem.Spec PyProof.Rows L2 Wt TL NumText
theorem passF {X : Cx} : Passes (L2.CX X.prog X.w) X (fun _ _ _ => False) := fun _ _ _ _ _ _ _ c => by
  obtain ⟨_, _, _, _, _, _, _, _, _, _, _, _, e⟩ := c
  exact e.elim
/-- the parts of an entry -/
structure Val (k : Str) (a b : Int) (o : Option Str) : Prop where
  kin : k ∈ KS
  zo : o.isSome = true ↔ k = "zoned"
  le : a ≤ b
  nm : ∀ n, o = some n → nameL (tl n)
def small (n : Int) : Prop := n.natAbs < 10 ^ 60
theorem small_len {n : Int} (h : small n) : (strI n).length ≤ 61 := by
  have := len_str n
  have z := numL_len (n := n.natAbs) (k := 60) (by decide) h
  omega
theorem small_log {n : Int} (h : small n) : n.natAbs.log2 < 1920 := by
  have h1 : n.natAbs < 2 ^ 200 := Nat.lt_of_lt_of_le h (by decide +kernel)
  have := PySem.Flt.log2_lt_of (show 0 < 200 by decide) h1
  omega
theorem ks_len {k : Str} (h : k ∈ KS) : k.length ≤ 5 := by
  have : ∀ x ∈ KS, x.length ≤ 5 := by decide +kernel
  exact this k h
theorem name_len {n : Str} (h : nameL (tl n)) : n.length ≤ 12 := by
  rw [len_tl]
  exact h.2.1
def tailS : Option Str → Str
  | none => Str.empty
  | some n => " " ++ n
theorem tl_empty : tl Str.empty = [] := rfl
theorem len_app (x y : Str) : (x ++ y).length = x.length + y.length := by
  rw [len_tl, tl_append, List.length_append, ← len_tl, ← len_tl]
theorem fitL {n : Nat} (h : n ≤ 10000) : n ≤ sizeLine := by rw [sizeLine_eq]; omega
theorem e_app (x : Str) : Str.empty ++ x = x := ext_tl (by rw [tl_append]; rfl)
theorem mk_glued (k : Str) (a b : Int) (o : Option Str) : k ++ " " ++ strI a ++ " to " ++ strI b ++ tailS o = mkT k a b o := by
  refine ext_tl ?_
  have e : tl (" to " : Str) = [32] ++ (tl ("to" : Str) ++ [32]) := by decide +kernel
  unfold mkT
  rw [join_eq, tl_join, Wt.blank]
  cases o with
  | none => simp [tl_append, Wt.blank, e, tailS, tl_empty, joinL, Option.toList]
  | some n => simp [tl_append, Wt.blank, e, tailS, joinL, Option.toList]
theorem et_of {k : Str} {a b : Int} {o : Option Str} (v : Val k a b o) : Str.empty ++ k ++ " " ++ Str.ofString (toString a) ++ " to " ++ Str.ofString (toString b) ++ tailS o = mkT k a b o := by
  rw [e_app]
  exact mk_glued k a b o
theorem mk_len {k : Str} {a b : Int} {o : Option Str} (v : Val k a b o) (ha : small a) (hb : small b) : (mkT k a b o).length ≤ 200 := by
  have h1 := ks_len v.kin
  have h2 := small_len ha
  have h3 := small_len hb
  have h4 : (tailS o).length ≤ 13 := by
    cases o with
    | none => exact Nat.zero_le _
    | some n =>
      have := name_len (v.nm n rfl)
      unfold tailS
      rw [len_app]
      have : (" " : Str).length = 1 := by decide +kernel
      omega
  rw [← mk_glued]
  simp only [len_app]
  have : (" " : Str).length = 1 := by decide +kernel
  have : (" to " : Str).length = 4 := by decide +kernel
  omega
def spOf (C : Addr) : Sp := fun vs H Q _ => ∃ (k : Str) (a b : Int) (o : Option Str), vs = [.str k, .int a, .int b, oS o] ∧ Val k a b o ∧ small a ∧ small b ∧
  ∀ x H', Same H H' → EntA C x (mkT k a b o) k a b o H' → Q (.ref x) H'
section
variable {P : Program} {w : World} {K : PySem.W.Frag} {mg : Str → Option Value} {base : Heap} {f : Addr} {fd : FuncData}
structure DOf (P : Program) (w : World) (K : PySem.W.Frag) (mg : Str → Option Value) (base : Heap) (CB : Addr) : Prop where
  mkE : Mk K (He.ga K "Entry") (He.ma K (He.ga K "Entry") "__init__")
  ini : ∃ fd, FnOk P w K mg base (L2.CX P w) 4 (He.ma K (He.ga K "Entry") "__init__") fd ["self", "text", "digits"] (spEnt K (He.ga K "Entry") CB) ∧
    (∃ mv : List Value, KBn K fd ["self", "text", "digits"] 2 ["digits"] (fun us ws => us ++ (mv ++ ws)) (fun vs zs => vs ++ ([] ++ zs))) ∧ ∃ ds, Vals [V.int 30] ds ∧ Binds K fd ["self", "text", "digits"] ds
theorem scOf : FnScope ["kind", "first", "last", "zone", "where"] ["kind", "first", "last", "zone"] (defScope (top 12)) := ⟨rfl, rfl, rfl, by decide +kernel, rfl, by decide +kernel, by decide +kernel⟩
theorem ok_of {CB : Addr} (F : FnG K "entry_of" 12 f fd) (T : Tx K mg) (D : DOf P w K mg base CB) : FnOk P w K mg base CX0 6 f fd ["kind", "first", "last", "zone"] (spOf (He.ga K "Entry")) := by
  refine F.ok scOf (fun vs H Q E h => ?_) (fun cdv A outer s H vs Q E hr h => ?_)
  · obtain ⟨k, a, b, o, rfl, _⟩ := h
    rfl
  · obtain ⟨k, a, b, o, rfl, v, ha, hb', good⟩ := h
    obtain ⟨fdI, GI, ⟨mv, hb⟩, _⟩ := D.ini
    refine ⟨_, PSs.nox (pss_cons (ps_set (i := 4) scOf.nd rfl (Or.inl rfl) (pe_ifExp (pt_cmpR op_isN (pv 3) pe_non (nomark _)) pe_str (pe_joined (PJ.cons pe_str (PJ.cons (pe_fmt (pv 3)) PJ.nil)))))
        (pss_one (ps_ret (pe_makeK (n := 1) (ks := ["digits"]) D.mkE GI (hr.mono (by decide)) rfl T.Entry hb passF (pa_cons (pe_joined (PJ.cons (pe_fmt (pv 0)) (PJ.cons pe_str (PJ.cons (pe_fmt (pv 1)) (PJ.cons pe_str (PJ.cons (pe_fmt (pv 2)) (PJ.cons (pe_fmt (pv 4)) PJ.nil))))))) pa_nil) (pk_cons pe_non pk_nil))))), ?_⟩
    have l1 := ks_len v.kin
    have l2 := small_len ha
    have l3 := small_len hb'
    have ml := mk_len v ha hb'
    have g1 : (" " : Str).length = 1 := by decide +kernel
    have g4 : (" to " : Str).length = 4 := by decide +kernel
    have ge : (Str.empty : Str).length = 0 := rfl
    have l2' : (Str.ofString (toString a)).length ≤ 61 := l2
    have l3' : (Str.ofString (toString b)).length ≤ 61 := l3
    have gt : (tailS o).length ≤ 13 := by
      cases o with
      | none => exact Nat.zero_le _
      | some n =>
        have := name_len (v.nm n rfl)
        unfold tailS
        rw [len_app]
        omega
    rcases o with _ | n
    all_goals first
      | (refine ⟨_, rfl, rfl, _, rfl, ifB rfl ?_⟩
         rw [show ("" : Str) = tailS none from by decide +kernel])
      | (have ln := name_len (v.nm n rfl)
         refine ⟨_, rfl, rfl, _, rfl, ifN rfl ?_⟩
         refine ⟨_, rfl, fitL (by rw [len_app]; omega), _, rfl, .inl ⟨n, rfl, fitL (by omega), _, rfl, fitL (by rw [len_app, len_app]; omega), ?_⟩⟩
         rw [show Str.empty ++ (" " : Str) ++ n = tailS (some n) from by rw [e_app]; rfl])
    all_goals
      refine ⟨_, rfl, .inl ⟨k, rfl, fitL (by omega), _, rfl, fitL (by simp only [len_app]; omega), ?_⟩⟩
      refine ⟨_, rfl, fitL (by simp only [len_app]; omega), ?_⟩
      refine ⟨_, rfl, .inr ⟨a, rfl, small_log ha, _, rfl, fitL (by simp only [len_app]; omega), ?_⟩⟩
      refine ⟨_, rfl, fitL (by simp only [len_app]; omega), ?_⟩
      refine ⟨_, rfl, .inr ⟨b, rfl, small_log hb', _, rfl, fitL (by simp only [len_app]; omega), ?_⟩⟩
      refine ⟨_, rfl, .inl ⟨_, rfl, fitL (by omega), _, rfl, fitL (by simp only [len_app]; omega), ?_⟩⟩
      refine ⟨rfl, rfl, fun x dx nx ndx ne => ?_⟩
      have et := et_of v
      have s2 : Same H (upd (upd H dx (.own x)) x (.ins (He.ga K "Entry") dx [])) := fun c u q => by
        rw [upd_ne (ne_of_none q nx), upd_ne (ne_of_none q ndx)]
        exact q
      rw [et]
      refine ⟨x, dx, .str _, none, rfl, upd_same, .inl ⟨_, rfl, by omega, fun k' a' b' o' rd H' kp en => ⟨rfl, ?_⟩, fun no => ?_⟩⟩
      · obtain ⟨rfl, rfl, rfl, rfl⟩ := rd.uniq (mk_reads (dg := none) v.kin v.zo (fun d h => by cases h) (fun d h => by cases h) v.le v.nm)
        exact good x H' (fun c u q => kp c u (s2 c u q) (ne_of_none q nx)) en
      · exact absurd (mk_reads (dg := none) v.kin v.zo (fun d h => by cases h) (fun d h => by cases h) v.le v.nm) (no _ _ _ _)
structure DLater (P : Program) (w : World) (K : PySem.W.Frag) (mg : Str → Option Value) (base : Heap) : Prop where
  entry_of : Df P w K mg base CX0 6 "entry_of" ["kind", "first", "last", "zone"] (spOf (He.ga K "Entry"))
def stepOf (k : Str) (m : Int) : Int := if k = "day" then m else 1440 * m
def spLater (C : Addr) : Sp := fun vs H Q _ => ∃ (x : Addr) (z k : Str) (a b : Int) (o : Option Str) (m : Int), vs = [.ref x, .int m] ∧ EntA C x z k a b o H ∧ Val k a b o ∧ small (a + stepOf k m) ∧ small (b + stepOf k m) ∧
  ∀ y H', Same H H' → EntA C y (mkT k (a + stepOf k m) (b + stepOf k m) o) k (a + stepOf k m) (b + stepOf k m) o H' → Q (.ref y) H'
theorem Val.shift {k : Str} {a b : Int} {o : Option Str} (v : Val k a b o) (n : Int) : Val k (a + n) (b + n) o := ⟨v.kin, v.zo, by have := v.le; omega, v.nm⟩
theorem scLater : FnScope ["entry", "many", "step"] ["entry", "many"] (defScope (top 14)) := ⟨rfl, rfl, rfl, by decide +kernel, rfl, by decide +kernel, by decide +kernel⟩
theorem ok_later (F : FnG K "_later" 14 f fd) (T : Tx K mg) (D : DLater P w K mg base) : FnOk P w K mg base CX0 7 f fd ["entry", "many"] (spLater (He.ga K "Entry")) := by
  refine F.ok scLater (fun vs H Q E h => ?_) (fun cdv A outer s H vs Q E hr h => ?_)
  · obtain ⟨x, z, k, a, b, o, m, rfl, _⟩ := h
    rfl
  · obtain ⟨x, z, k, a, b, o, m, rfl, ⟨dx, hx⟩, v, sa, sb, good⟩ := h
    obtain ⟨tD, hD⟩ := T.DAY
    refine ⟨_, PSs.nox (pss_cons (ps_set (i := 2) scLater.nd rfl (Or.inl rfl) (pe_ifExp (pt_cmpR op_eq (pe_fld (pv 0) rfl) pe_str (nomark _)) (pv 1) (pe_op op_mul (pe_glob (v := .int 1440) rfl hD ⟨_, rfl⟩) (pv 1))))
        (pss_one (ps_ret (pe_cd D.entry_of (hr.mono (by decide)) pass0 (pa_cons (pe_fld (pv 0) rfl) (pa_cons (pe_op op_add (pe_fld (pv 0) rfl) (pv 2)) (pa_cons (pe_op op_add (pe_fld (pv 0) rfl) (pv 2)) (pa_cons (pe_fld (pv 0) rfl) pa_nil)))))))), ?_⟩
    refine ⟨_, rfl, x, _, dx, _, _, rfl, hx, T.cl, T.n2, lk_kind, rfl, _, rfl, ifC (fun h => ?_) (fun h => ?_)⟩
    all_goals first
      | (refine ⟨_, rfl, ?_⟩
         have es : stepOf k m = m := if_pos (V.str.inj h)
         rw [es] at sa sb good)
      | (refine ⟨_, rfl, _, _, rfl, rfl, .inl ⟨by decide, by decide⟩, ?_⟩
         have es : stepOf k m = 1440 * m := if_neg fun e => h (congrArg V.str e)
         rw [es] at sa sb good)
    all_goals
      refine ⟨_, rfl, x, _, dx, _, _, rfl, hx, T.cl, T.n2, lk_kind, ?_⟩
      refine ⟨_, rfl, x, _, dx, _, _, rfl, hx, T.cl, T.n3, lk_first, _, rfl, _, _, rfl, rfl, ?_⟩
      refine ⟨_, rfl, x, _, dx, _, _, rfl, hx, T.cl, T.n4, lk_last, _, rfl, _, _, rfl, rfl, ?_⟩
      refine ⟨_, rfl, x, _, dx, _, _, rfl, hx, T.cl, T.n5, lk_zone, ?_⟩
      exact ⟨k, _, _, o, rfl, v.shift _, sa, sb, good⟩
structure D_add (P : Program) (w : World) (K : PySem.W.Frag) (mg : Str → Option Value) (base : Heap) : Prop where
  later : Df P w K mg base CX0 7 "_later" ["entry", "many"] (spLater (He.ga K "Entry"))
def sp_add (C : Addr) : Sp := fun vs H Q E => ∃ x m, vs = [.ref x, .int m] ∧ spLater C [.ref x, .int (m)] H Q E
theorem sc_add : FnScope ["self", "many"] ["self", "many"] (defScope (inClass (top 11) 2)) := ⟨rfl, rfl, rfl, by decide +kernel, rfl, by decide +kernel, by decide +kernel⟩
theorem ok_add (F : FunD K "__add__" "Entry.__add__" (defArgs (inClass (top 11) 2)) (defBody (inClass (top 11) 2)) (defScope (inClass (top 11) 2)) [] [] f fd) (D : D_add P w K mg base) : FnOk P w K mg base CX0 8 f fd ["self", "many"] (sp_add (He.ga K "Entry")) := by
  refine F.ok sc_add (fun vs H Q E h => ?_) (fun cdv A outer s H vs Q E hr h => ?_)
  · obtain ⟨x, m, rfl, _⟩ := h
    rfl
  · obtain ⟨x, m, rfl, y, z, k, a, b, o, n, ev, h⟩ := h
    refine ⟨_, PSs.nox (pss_one (ps_ret (pe_cd D.later (hr.mono (by decide)) pass0 (pa_cons (pv 0) (pa_cons (pv 1) pa_nil))))), ?_⟩
    exact ⟨_, rfl, _, rfl, y, z, k, a, b, o, n, ev, h⟩
structure D_sub (P : Program) (w : World) (K : PySem.W.Frag) (mg : Str → Option Value) (base : Heap) : Prop where
  later : Df P w K mg base CX0 7 "_later" ["entry", "many"] (spLater (He.ga K "Entry"))
def sp_sub (C : Addr) : Sp := fun vs H Q E => ∃ x m, vs = [.ref x, .int m] ∧ spLater C [.ref x, .int (-m)] H Q E
theorem sc_sub : FnScope ["self", "many"] ["self", "many"] (defScope (inClass (top 11) 3)) := ⟨rfl, rfl, rfl, by decide +kernel, rfl, by decide +kernel, by decide +kernel⟩
theorem ok_sub (F : FunD K "__sub__" "Entry.__sub__" (defArgs (inClass (top 11) 3)) (defBody (inClass (top 11) 3)) (defScope (inClass (top 11) 3)) [] [] f fd) (D : D_sub P w K mg base) : FnOk P w K mg base CX0 8 f fd ["self", "many"] (sp_sub (He.ga K "Entry")) := by
  refine F.ok sc_sub (fun vs H Q E h => ?_) (fun cdv A outer s H vs Q E hr h => ?_)
  · obtain ⟨x, m, rfl, _⟩ := h
    rfl
  · obtain ⟨x, m, rfl, y, z, k, a, b, o, n, ev, h⟩ := h
    refine ⟨_, PSs.nox (pss_one (ps_ret (pe_cd D.later (hr.mono (by decide)) pass0 (pa_cons (pv 0) (pa_cons (pe_un un_neg (pv 1)) pa_nil))))), ?_⟩
    exact ⟨_, rfl, _, rfl, _, rfl, y, z, k, a, b, o, n, ev, h⟩
end
end Wd

set_option maxHeartbeats 4000000
namespace Wd
open PySem PySem.Spec PyProof.Rows L2 Wt TL NumText
/-- something is drawn: at most c more draws, all but the pen as it was -/
def Drawn (d l : Addr) (a c : Int) (H : Hp) (P : Int → Hp → Prop) : Prop := ∀ a' H', a ≤ a' → a' ≤ a + c → Pen H' d l a' → But d H H' → P a' H'
def spBig : Sp := fun vs H Q _ => ∃ (d l : Addr) (a n : Int), vs = [.ref d, .int n] ∧ Pen H d l a ∧ a ≤ 90000 ∧ 0 < n ∧ small n ∧ ∀ r, 0 ≤ r → r < n → Drawn d l a 12 H fun _ H' => Q (.int r) H'
section
variable {P : Program} {w : World} {K : PySem.W.Frag} {mg : Str → Option Value} {base : Heap} {f : Addr} {fd : FuncData}
structure DDraw (P : Program) (w : World) (K : PySem.W.Frag) (mg : Str → Option Value) (base : Heap) : Prop where
  law_draw : Df P w K mg base CX0 1 "_law_draw" ["_law_pen_here", "_law_many"] spDraw
  law_pick : Df P w K mg base CX0 2 "_law_pick" ["_law_pen_here", "_law_some"] (spPick K)
theorem scBig : FnScope ["_law_pen_here", "_law_many", "_law_found", "_law_k"] ["_law_pen_here", "_law_many"] (defScope (top 20)) := ⟨rfl, rfl, rfl, by decide +kernel, rfl, by decide +kernel, by decide +kernel⟩
theorem ok_big (F : FnG K "_law_big" 20 f fd) (T : Tx K mg) (D : DDraw P w K mg base) : FnOk P w K mg base CX0 2 f fd ["_law_pen_here", "_law_many"] spBig := by
  refine F.ok scBig (fun vs H Q E h => ?_) (fun cdv A outer s H vs Q E hr h => ?_)
  · obtain ⟨d, l, a, n, rfl, _⟩ := h
    rfl
  · obtain ⟨d, l, a, n, rfl, hp, ha, hn, sn, k⟩ := h
    refine ⟨_, PSs.nox (pss_cons (ps_set (i := 2) scBig.nd rfl (Or.inl rfl) pe_int)
        (pss_cons (ps_for PassesOwn.never rfl (pi_range1 (by rfl) T.range (pa_cons (pe_op op_add (pe_op op_fdiv (pe_callB call_len_str (by rfl) T.len PySem.boot_len (pa_cons (pe_callTy call_str_int (by rfl) T.str (by decide +kernel) (pa_cons (pv 1) pa_nil)) pa_nil)) pe_int) pe_int) pa_nil)) (pg_name (i := 3) scBig.nd rfl (Or.inl rfl)) (pss_one (ps_set (i := 2) scBig.nd rfl (Or.inl rfl) (pe_op op_add (pe_op op_mul (pv 2) (pe_op op_pow pe_int pe_int)) (pe_cd D.law_draw (hr.mono (by decide)) pass0 (pa_cons (pv 0) (pa_cons (pe_op op_pow pe_int pe_int) pa_nil)))))))
        (pss_one (ps_ret (pe_op op_mod (pe_callTy call_int1 (by rfl) T.int (by decide +kernel) (pa_cons (pv 2) pa_nil)) (pv 1)))))), ?_⟩
    have ln : (Str.ofString (toString n)).length ≤ 61 := small_len sn
    refine ⟨_, rfl, _, rfl, small_log sn, _, rfl, fitL (by omega), _, _, rfl, rfl, ⟨by decide, by decide⟩, _, _, rfl, rfl, ?_⟩
    have q0 : (0 : Int) ≤ ((Str.ofString (toString n)).length : Int) / 6 + 2 := by omega
    have q1 : ((Str.ofString (toString n)).length : Int) / 6 + 2 ≤ 12 := by omega
    refine ⟨_, rfl, Int.le_trans (by decide) q0, Int.lt_of_le_of_lt q1 (by decide), for_range (lo := 0)
      (fun i σ H' => ∃ (x3 : Option V) (y a' : Int), σ = [some (.ref d), some (.int n), some (.int y), x3] ∧ Pen H' d l a' ∧ a ≤ a' ∧ a' ≤ a + i ∧ But d H H')
      ⟨none, 0, a, rfl, hp, Int.le_refl a, by omega, But.refl⟩ ?_ ?_⟩
    · rintro i σ H1 hi ⟨x3, y, a', rfl, p1, g1, g2, b1⟩
      have hi' : (i : Int) < 12 := by omega
      refine ⟨_, rfl, 10, 6, rfl, rfl, ⟨by decide, by decide, by decide⟩, _, _, rfl, rfl, .inr ⟨by decide, by decide⟩, _, rfl, 10, 6, rfl, rfl, ⟨by decide, by decide, by decide⟩,
        d, l, a', _, rfl, p1, by omega, by decide, by decide, fun r a2 H2 r0 rn g3 g4 p2 b2 => ?_⟩
      exact ⟨_, _, rfl, rfl, _, _, a2, rfl, p2, by omega, by omega, b1.trans b2⟩
    · rintro σ H1 ⟨x3, y, a', rfl, p1, g1, g2, b1⟩
      exact ⟨_, rfl, .inl ⟨_, rfl, _, rfl, _, _, rfl, rfl, hn, k _ (Int.emod_nonneg _ (by omega)) (Int.emod_lt_of_pos _ hn) a' H1 g1 (by omega) p1 b1⟩⟩
def spTxt (K : PySem.W.Frag) : Sp := fun vs H Q _ => ∃ (t : Addr) (k : Str) (a b : Int) (o : Option Str), vs = [.ref t] ∧ SqT K H t [.str k, .int a, .int b, oS o] ∧ k.length ≤ 100 ∧ small a ∧ small b ∧ (∀ n, o = some n → n.length ≤ 100) ∧ Q (.str (mkT k a b o)) H
theorem scTxt : FnScope ["_law_entry", "_law_kind", "_law_first", "_law_last", "_law_zone", "_law_text"] ["_law_entry"] (defScope (top 21)) := ⟨rfl, rfl, rfl, by decide +kernel, rfl, by decide +kernel, by decide +kernel⟩
theorem ok_txt (F : FnG K "_law_entry_text" 21 f fd) (T : Tx K mg) : FnOk P w K mg base CX0 1 f fd ["_law_entry"] (spTxt K) := by
  refine F.ok scTxt (fun vs H Q E h => ?_) (fun cdv A outer s H vs Q E hr h => ?_)
  · obtain ⟨t, k, a, b, o, rfl, _⟩ := h
    rfl
  · obtain ⟨t, k, a, b, o, rfl, ht, lk, sa, sb, lo, q⟩ := h
    refine ⟨_, PSs.nox (pss_cons (ps_asg (pv 0) (pg_tup rfl (pgs_cons (pg_name (i := 1) scTxt.nd rfl (Or.inl rfl)) (pgs_cons (pg_name (i := 2) scTxt.nd rfl (Or.inl rfl)) (pgs_cons (pg_name (i := 3) scTxt.nd rfl (Or.inl rfl)) (pgs_cons (pg_name (i := 4) scTxt.nd rfl (Or.inl rfl)) pgs_nil))))))
        (pss_cons (ps_set (i := 5) scTxt.nd rfl (Or.inl rfl) (pe_op op_add_str (pe_op op_add_str (pe_op op_add_str (pe_op op_add_str (pv 1) pe_str) (pe_callTy call_str_int (by rfl) T.str (by decide +kernel) (pa_cons (pv 2) pa_nil))) pe_str) (pe_callTy call_str_int (by rfl) T.str (by decide +kernel) (pa_cons (pv 3) pa_nil))))
        (pss_one (ps_ret (pe_ifExp (pt_cmpR op_isN (pv 4) pe_non (nomark _)) (pv 5) (pe_op op_add_str (pe_op op_add_str (pv 5) pe_str) (pv 4))))))), ?_⟩
    have l2 : (Str.ofString (toString a)).length ≤ 61 := small_len sa
    have l3 : (Str.ofString (toString b)).length ≤ 61 := small_len sb
    have g1 : (" " : Str).length = 1 := by decide +kernel
    have g4 : (" to " : Str).length = 4 := by decide +kernel
    refine ⟨_, rfl, t, _, rfl, ht, rfl, _, _, rfl, _, _, rfl, _, _, rfl, _, _, rfl, rfl, ?_⟩
    refine ⟨_, rfl, _, _, rfl, rfl, fitL (by omega), _, rfl, _, rfl, small_log sa, _, _, rfl, rfl, fitL (by simp only [len_app]; omega), _, _, rfl, rfl, fitL (by simp only [len_app]; omega), _, rfl, _, rfl, small_log sb, _, _, rfl, rfl, fitL (by simp only [len_app]; omega), ?_⟩
    have mg0 : k ++ " " ++ Str.ofString (toString a) ++ " to " ++ Str.ofString (toString b) ++ tailS o = mkT k a b o := mk_glued k a b o
    rcases o with _ | n
    · refine ⟨_, rfl, rfl, _, rfl, ifB rfl ⟨_, rfl, ?_⟩⟩
      rw [← mg0] at q
      have e : ∀ x : Str, x ++ Str.empty = x := fun x => ext_tl (by rw [tl_append, tl_empty, List.append_nil])
      unfold tailS at q
      rw [e] at q
      exact q
    · have ln := lo n rfl
      refine ⟨_, rfl, rfl, _, rfl, ifN rfl ?_⟩
      refine ⟨_, rfl, _, _, rfl, rfl, fitL (by simp only [len_app]; omega), _, rfl, _, _, rfl, rfl, fitL (by simp only [len_app]; omega), ?_⟩
      rw [← mg0] at q
      have e : ∀ x : Str, x ++ (" " ++ n) = x ++ " " ++ n := fun x => ext_tl (by rw [tl_append, tl_append, tl_append, tl_append, List.append_assoc])
      unfold tailS at q
      rw [e] at q
      exact q
end
end Wd

set_option maxHeartbeats 4000000
namespace Wd
open PySem PySem.Spec PyProof.Rows L2 Wt TL NumText
theorem az_in (c : Nat) : c ∈ tl ("abcdefghijklmnopqrstuvwxyz" : Str) ↔ 97 ≤ c ∧ c ≤ 122 := by
  rw [show tl ("abcdefghijklmnopqrstuvwxyz" : Str) = (List.range 26).map (· + 97) from by decide +kernel]
  simp only [List.mem_map, List.mem_range]
  constructor
  · rintro ⟨i, h, rfl⟩
    omega
  · rintro ⟨h1, h2⟩
    exact ⟨c - 97, by omega, by omega⟩
theorem dg_in (c : Nat) : c ∈ tl ("0123456789" : Str) ↔ 48 ≤ c ∧ c ≤ 57 := by
  rw [show tl ("0123456789" : Str) = (List.range 10).map (· + 48) from by decide +kernel]
  simp only [List.mem_map, List.mem_range]
  constructor
  · rintro ⟨i, h, rfl⟩
    omega
  · rintro ⟨h1, h2⟩
    exact ⟨c - 48, by omega, by omega⟩
theorem take_succ_of {z : Str} {i c : Nat} (h : z.cps[i]? = some c) : (tl z).take (i + 1) = (tl z).take i ++ [c] := by
  have e : (tl z)[i]? = some c := by
    show z.cps.toList[i]? = some c
    rw [Array.getElem?_toList]
    exact h
  rw [List.take_succ, e]
  rfl
theorem all_map {p : Nat → Bool} {l : List Nat} : (l.map p).all id = true ↔ ∀ c ∈ l, p c = true := by
  simp [List.all_eq_true]
def spNameS : Sp := fun vs H Q _ => ∃ z : Str, vs = [.str z] ∧ z.length ≤ 1000 ∧ ∀ (b : Bool) (H' : Hp), Same H H' → (b = true ↔ nameL (tl z)) → Q (.bl b) H'
section
variable {P : Program} {w : World} {K : PySem.W.Frag} {mg : Str → Option Value} {base : Heap} {f : Addr} {fd : FuncData}
theorem scLn : FnScope ["_law_text", "_law_sign"] ["_law_text"] (defScope (top 22)) := ⟨rfl, rfl, rfl, by decide +kernel, rfl, by decide +kernel, by decide +kernel⟩
theorem ok_ln (F : FnG K "_law_is_name" 22 f fd) (T : Tx K mg) : FnOk P w K mg base CX0 1 f fd ["_law_text"] spNameS := by
  refine F.ok scLn (fun vs H Q E h => ?_) (fun cdv A outer s H vs Q E hr h => ?_)
  · obtain ⟨z, rfl, _⟩ := h
    rfl
  · obtain ⟨z, rfl, hz, k⟩ := h
    refine ⟨_, PSs.nox (pss_one (ps_ret (pe_and (pe_chain op_le op_le pe_int (pe_callB call_len_str (by rfl) T.len PySem.boot_len (pa_cons (pv 0) pa_nil)) pe_int) (pe_one (pe_callB (cr_all rfl) (by rfl) T.all (by decide +kernel) (pa_cons (pe_lc (own := [("_law_sign", 1)]) (g := gName 1) (tt := tYes) rfl scLn.nd (pi_str (pv 0)) (blkOk_by (own := [("_law_sign", 1)]) (N := ["_law_text", "_law_sign"]) (sc := defScope (top 22)) (by decide +kernel)) (fun _ _ _ _ _ => pg_name (i := 1) scLn.nd rfl (Or.inl rfl)) (fun _ _ _ _ _ => pts_nil) (fun _ _ _ _ _ => (pe_cmpR op_in_sign (pv 1) pe_str (by rfl)))) pa_nil)))))), ?_⟩
    have lt := len_tl z
    have kf : ¬ nameL (tl z) → Q (.bl false) H := fun h => k false H (Same.refl H) ⟨fun e => (by cases e), fun e => absurd e h⟩
    refine ⟨_, rfl, _, rfl, fitL (by omega), _, _, rfl, rfl, _, rfl, ifC (fun h1 => ?_) (fun h1 => ?_)⟩
    rotate_left
    · exact ⟨false, rfl, iteF (kf fun e => h1 (by have := List.length_pos_iff.mpr e.1; show (1 : Int) ≤ (z.length : Int); omega))⟩
    refine ⟨_, _, rfl, rfl, _, rfl, ifC (fun h2 => ?_) (fun h2 => ?_)⟩
    rotate_left
    · exact kf fun e => h2 (by have := e.2.1; show (z.length : Int) ≤ 12; omega)
    refine ⟨_, rfl, z, rfl, fun D hD => lc_it walk_str
      (fun i H1 => Same H H1 ∧ H1 D = some (.lst (((tl z).take i).map fun c => V.bl (decide (c ∈ tl ("abcdefghijklmnopqrstuvwxyz" : Str)))))) ⟨same_upd hD, by rw [List.take_zero]; exact upd_same⟩ (fun _ _ _ _ => trivial) ?_ ?_⟩
    · rintro i x H0 H1 hi ⟨s1, l1⟩ ⟨rfl, c, hc, rfl⟩
      refine ⟨rfl, ?_⟩
      refine iteT (B := Same H H1 ∧ H1 D = some (.lst (((tl z).take (i + 1)).map fun c => V.bl (decide (c ∈ tl ("abcdefghijklmnopqrstuvwxyz" : Str)))))) ?_
      refine ⟨_, rfl, c, _, rfl, rfl, _, l1, ?_, fun b o q => ?_, ?_⟩
      · rw [List.length_map, List.length_take, sizeLine_eq]
        have := len_tl z
        omega
      · rw [upd_ne (ne_of_none q hD)]
        exact s1 b o q
      · rw [upd_same, take_succ_of hc, List.map_append]
        rfl
    rintro H1 ⟨s1, l1⟩
    rw [List.take_of_length_le (by show (tl z).length ≤ _; simp [tl])] at l1
    refine ⟨D, (tl z).map fun c => decide (c ∈ tl ("abcdefghijklmnopqrstuvwxyz" : Str)), rfl, SqL.of (by rw [List.map_map]; exact l1), ?_⟩
    refine k _ H1 s1 ?_
    rw [all_map]
    have h1' : (1 : Int) ≤ (z.length : Int) := h1
    have h2' : (z.length : Int) ≤ 12 := h2
    constructor
    · intro e
      refine ⟨List.length_pos_iff.mp (by omega), by omega, fun c hc => (az_in c).mp (of_decide_eq_true (e c hc))⟩
    · intro e c hc
      exact decide_eq_true ((az_in c).mpr (e.2.2 c hc))
end
end Wd

set_option maxHeartbeats 4000000
namespace Wd
open PySem PySem.Spec PyProof.Rows L2 Wt TL NumText
theorem cut_first (z : Str) : tl (cutS z none (some 1)) = (tl z).take 1 := by
  have e : HT.sIx z.length 0 none = 0 := rfl
  have lt := len_tl z
  unfold cutS
  show (List.take _ (List.drop _ (tl z))) = _
  rw [e, List.drop_zero]
  cases h : tl z with
  | nil => simp
  | cons c r =>
    have : HT.sIx z.length z.length (some 1) = 1 := by
      rw [lt, h, List.length_cons]
      simp [HT.sIx]
    rw [this]
theorem cut_rest (z : Str) : tl (cutS z (some 1) none) = (tl z).drop 1 := by
  have lt := len_tl z
  unfold cutS
  show (List.take _ (List.drop _ (tl z))) = _
  have e2 : HT.sIx z.length z.length none = z.length := rfl
  rw [e2]
  cases h : tl z with
  | nil => simp
  | cons c r =>
    have : HT.sIx z.length 0 (some 1) = 1 := by
      rw [lt, h, List.length_cons]
      simp [HT.sIx]
      try omega
    rw [this]
    show List.take _ r = r
    exact List.take_of_length_le (by rw [lt, h, List.length_cons]; omega)
def spNumS : Sp := fun vs H Q _ => ∃ z : Str, vs = [.str z] ∧ z.length ≤ 600 ∧ ∀ H', Same H H' → Q (oV (numR (some 30) z)) H'
def spWhole : Sp := fun vs H Q _ => ∃ n : Int, vs = [.int n] ∧ Q (.bl true) H
section
variable {P : Program} {w : World} {K : PySem.W.Frag} {mg : Str → Option Value} {base : Heap} {f : Addr} {fd : FuncData}
theorem scWh : FnScope ["_law_number_here"] ["_law_number_here"] (defScope (top 24)) := ⟨rfl, rfl, rfl, by decide +kernel, rfl, by decide +kernel, by decide +kernel⟩
theorem ok_wh (F : FnG K "_law_whole" 24 f fd) (T : Tx K mg) : FnOk P w K mg base CX0 1 f fd ["_law_number_here"] spWhole := by
  refine F.ok scWh (fun vs H Q E h => ?_) (fun cdv A outer s H vs Q E hr h => ?_)
  · obtain ⟨z, rfl, _⟩ := h
    rfl
  · obtain ⟨n, rfl, k⟩ := h
    refine ⟨_, PSs.nox (pss_one (ps_ret (pe_and (pe_callB call_isi (by rfl) T.isinstance (by decide +kernel) (pa_cons (pv 0) (pa_cons (pe_bltn (v := .ty "int") (by rfl) T.int (by decide +kernel) rfl) pa_nil))) (pe_one (pe_not (pe_callB call_isi (by rfl) T.isinstance (by decide +kernel) (pa_cons (pv 0) (pa_cons (pe_bltn (v := .ty "bool") (by rfl) T.bool (by decide +kernel) rfl) pa_nil)))))))), ?_⟩
    refine ⟨_, rfl, .int n, .ty "int", .type "int", .type "int", true, rfl, .ty _, .base (.int _), kit_ty (by decide +kernel), true, rfl, iteT ?_⟩
    exact ⟨_, rfl, .int n, .ty "bool", .type "int", .type "bool", false, rfl, .ty _, .base (.int _), kit_ty (by decide +kernel), false, rfl, k⟩
theorem scLu : FnScope ["_law_text", "_law_digits", "_law_sign"] ["_law_text"] (defScope (top 23)) := ⟨rfl, rfl, rfl, by decide +kernel, rfl, by decide +kernel, by decide +kernel⟩
theorem ok_lu (F : FnG K "_law_number" 23 f fd) (T : Tx K mg) : FnOk P w K mg base CX0 1 f fd ["_law_text"] spNumS := by
  refine F.ok scLu (fun vs H Q E h => ?_) (fun cdv A outer s H vs Q E hr h => ?_)
  · obtain ⟨z, rfl, _⟩ := h
    rfl
  · obtain ⟨z, rfl, hz, k⟩ := h
    refine ⟨_, PSs.nox (pss_cons (ps_set (i := 1) scLu.nd rfl (Or.inl rfl) (pe_ifExp (pt_cmpR op_eq (pe_slice sl_str (pv 0) po_none (po_some pe_int)) pe_str (nomark _)) (pe_slice sl_str (pv 0) (po_some pe_int) po_none) (pv 0)))
        (pss_cons (ps_if (PW.pt (pw_or (pt_not (pt_chain op_le op_le pe_int (pe_callB call_len_str (by rfl) T.len PySem.boot_len (pa_cons (pv 1) pa_nil)) pe_int)) (pw_or1 (pt_not (pt_val (pe_callB (cr_all rfl) (by rfl) T.all (by decide +kernel) (pa_cons (pe_lc (own := [("_law_sign", 2)]) (g := gName 2) (tt := tYes) rfl scLu.nd (pi_str (pv 1)) (blkOk_by (own := [("_law_sign", 2)]) (N := ["_law_text", "_law_digits", "_law_sign"]) (sc := defScope (top 23)) (by decide +kernel)) (fun _ _ _ _ _ => pg_name (i := 2) scLu.nd rfl (Or.inl rfl)) (fun _ _ _ _ _ => pts_nil) (fun _ _ _ _ _ => (pe_cmpR op_in_sign (pv 2) pe_str (by rfl)))) pa_nil))))))) (pss_one (ps_ret pe_non)) pss_nil)
        (pss_one (ps_ret (pe_ifExp (PW.pt (pw_or (pt_cmpR op_eq (pv 0) pe_str (nomark _)) (pw_or1 (pt_cmpR op_ne (pe_ix ix_str (pv 1) pe_int (fun _ _ => rfl)) pe_str (nomark _))))) (pe_callTy call_int_str (by rfl) T.int (by decide +kernel) (pa_cons (pv 0) pa_nil)) pe_non))))), ?_⟩
    have lt := len_tl z
    have no : ¬ (numOk z ∧ fits (some 30) z) → ∀ H', Same H H' → Q .non H' := fun h H' s1 => by
      have e := k H' s1
      have e2 : numR (some 30) z = none := by
        unfold numR
        rw [if_neg h]
      rw [e2] at e
      exact e
    have dec : (cutS z none (some 1) = "-") ↔ ∃ r, tl z = 45 :: r := by
      constructor
      · intro e
        have e1 := congrArg tl e
        rw [cut_first, dash] at e1
        cases q : tl z with
        | nil => rw [q] at e1; cases e1
        | cons c r =>
          rw [q] at e1
          simp at e1
          exact ⟨r, by rw [e1]⟩
      · rintro ⟨r, q⟩
        refine ext_tl ?_
        rw [cut_first, dash, q]
        rfl
    refine ⟨_, rfl, _, rfl, _, rfl, fitL (by omega), rfl, _, rfl, ifC (fun hm => ?_) (fun hm => ?_)⟩
    all_goals first
      | (replace hm := V.str.inj hm
         refine ⟨_, rfl, 1, rfl, _, rfl, fitL (by omega), ?_⟩
         have fe : tl (cutS z (some 1) none) = figL (tl z) := by
           obtain ⟨r, q⟩ := dec.mp hm
           rw [cut_rest, q]
           simp [figL]
         generalize cutS z (some 1) none = f at fe ⊢)
      | (obtain ⟨f, ef⟩ : ∃ f, f = z := ⟨z, rfl⟩
         refine ⟨.str f, by rw [ef]; rfl, ?_⟩
         have fe : tl f = figL (tl z) := by
           rw [ef]
           cases q : tl z with
           | nil => rfl
           | cons c r =>
             have hc : ¬ c = 45 := fun e => hm (congrArg V.str (dec.mpr ⟨r, by rw [q, e]⟩))
             simp [figL, hc])
    all_goals
      have lf : (tl f).length ≤ 600 := by
        rw [fe]
        have := figL_len (tl z)
        omega
      have lf2 := len_tl f
      refine ⟨_, rfl, _, rfl, fitL (by omega), _, _, rfl, rfl, _, rfl, ifC (fun h1 => ?_) (fun h1 => ?_)⟩
      rotate_left
      · refine ⟨false, rfl, ifB rfl (ifB rfl (no (fun e => h1 ?_) H (Same.refl H)))⟩
        have := List.length_pos_iff.mpr e.1.1.1
        show (1 : Int) ≤ (f.length : Int)
        rw [← fe] at this
        omega
      refine ⟨_, _, rfl, rfl, _, rfl, ifQ (fun h2 => ?_) (fun h2 => ?_)⟩
      · refine ifB rfl (no (fun e => ?_) H (Same.refl H))
        have h3 := e.2 30 rfl
        have h4 : ¬ (f.length : Int) ≤ 30 := of_decide_eq_false (by simpa using h2)
        rw [← fe] at h3
        omega
      have h2' : (f.length : Int) ≤ 30 := of_decide_eq_true (nf h2)
      have h1' : (1 : Int) ≤ (f.length : Int) := h1
      refine ⟨_, rfl, f, rfl, fun D hD => lc_it walk_str
        (fun i H1 => Same H H1 ∧ H1 D = some (.lst (((tl f).take i).map fun c => V.bl (decide (c ∈ tl ("0123456789" : Str)))))) ⟨same_upd hD, by rw [List.take_zero]; exact upd_same⟩ (fun _ _ _ _ => trivial) ?_ ?_⟩
      · rintro i x H0 H1 hi ⟨s1, l1⟩ ⟨rfl, c, hc, rfl⟩
        refine ⟨rfl, ?_⟩
        refine iteT (B := Same H H1 ∧ H1 D = some (.lst (((tl f).take (i + 1)).map fun c => V.bl (decide (c ∈ tl ("0123456789" : Str)))))) ?_
        refine ⟨_, rfl, c, _, rfl, rfl, _, l1, ?_, fun b o q => ?_, ?_⟩
        · rw [List.length_map, List.length_take, sizeLine_eq]
          have := len_tl f
          omega
        · rw [upd_ne (ne_of_none q hD)]
          exact s1 b o q
        · rw [upd_same, take_succ_of hc, List.map_append]
          rfl
      rintro H1 ⟨s1, l1⟩
      rw [List.take_of_length_le (by show (tl f).length ≤ _; simp [tl])] at l1
      refine ⟨D, (tl f).map fun c => decide (c ∈ tl ("0123456789" : Str)), rfl, SqL.of (by rw [List.map_map]; exact l1), ?_⟩
      refine ⟨_, rfl, ifQ (fun h5 => ?_) (fun h5 => ?_)⟩
      · refine no (fun e => ?_) H1 s1
        have : ((tl f).map fun c => decide (c ∈ tl ("0123456789" : Str))).all id = true := by
          rw [all_map]
          intro c hc
          rw [fe] at hc
          exact decide_eq_true ((dg_in c).mpr (e.1.1.2.1 c hc))
        rw [this] at h5
        cases h5
      have dg : AllDigits (tl f) := fun c hc => (dg_in c).mp (of_decide_eq_true (all_map.mp (nf h5) c hc))
      have fne : tl f ≠ [] := List.length_pos_iff.mp (by omega)
      obtain ⟨c, r, hc⟩ := List.exists_cons_of_ne_nil fne
      have at0 : atI f.cps.toList 0 = some c := by
        show atI (tl f) 0 = some c
        rw [hc]
        exact atI_nat (j := 0) rfl
      have z0 : ("0" : Str) = strI 0 := by decide +kernel
      have n0 : numOk ("0" : Str) := by rw [z0]; exact (num_str 0).1
      have fit : fits (some 30) z := fun d hd => by
        cases hd
        rw [← fe]
        omega
      have yes : numOk z → Q (.int (numV (tl z))) H1 := fun h => by
        have e := k H1 s1
        have e2 : numR (some 30) z = some (numV (tl z)) := by
          unfold numR
          rw [if_pos ⟨h, fit⟩]
        rw [e2] at e
        exact e
      refine ⟨_, rfl, rfl, _, rfl, ifC (fun h6 => ?_) (fun h6 => ?_)⟩
      · have ez : z = "0" := V.str.inj h6
        have nz : numOk z := by rw [ez]; exact n0
        exact ⟨_, rfl, _, _, rfl, num_int nz (by omega), by omega, yes nz⟩
      · refine ⟨_, rfl, _, _, c, rfl, rfl, fitL (by omega), at0, rfl, _, rfl, ifQ (fun h7 => ?_) (fun h7 => ?_)⟩
        · have c48 : ¬ c = 48 := fun e => by
            rw [decide_eq_true (congrArg V.str ((one_eq c).mpr e))] at h7
            cases h7
          have nz : numOk z := by
            refine ⟨⟨by rw [← fe]; exact fne, by rw [← fe]; exact dg, fun e => ?_⟩, fun e => ?_⟩
            · rw [← fe, hc] at e
              exact absurd (Option.some.inj e) c48
            · rw [← fe, hc] at e
              exact absurd (List.cons.inj e).1 c48
          exact ⟨_, rfl, _, _, rfl, num_int nz (by omega), by omega, yes nz⟩
        · have c48 : c = 48 := (one_eq c).mp (V.str.inj (of_decide_eq_true (nf h7)))
          refine no (fun e => h6 (congrArg V.str ?_)) H1 s1
          have e1 := e.1.2 (e.1.1.2.2 (by rw [← fe, hc, c48]; rfl))
          exact ext_tl (e1.trans zero1.symm)
end
end Wd

set_option maxHeartbeats 4000000
namespace Wd
open PySem PySem.Spec PyProof.Rows L2 Wt TL NumText
theorem pick_list {K : PySem.W.Frag} {H : Hp} {d l t : Addr} {a : Int} {xs : List V} {Q : VK} {E : XK} (p : Pen H d l a) (ha : a ≤ 100000) (ht : H t = some (.lst xs)) (td : t ≠ d) (hx : xs ≠ []) (hz : xs.length ≤ 1000)
    (k : ∀ x ∈ xs, Drawn d l a 1 H fun _ H' => Q x H') : spPick K [.ref d, .ref t] H Q E :=
  ⟨d, l, a, .ref t, rfl, p, ha, .inl ⟨t, xs, rfl, td, ht, hx, hz, fun x a' H' hx' g1 g2 p' b' => k x hx' a' H' g1 g2 p' b'⟩⟩
theorem draw_of {H : Hp} {d l : Addr} {a n : Int} {Q : VK} {E : XK} (p : Pen H d l a) (ha : a ≤ 100000) (h0 : 0 < n) (hn : n < 1073741824) (k : ∀ r, 0 ≤ r → r < n → Drawn d l a 1 H fun _ H' => Q (.int r) H') : spDraw [.ref d, .int n] H Q E :=
  ⟨d, l, a, n, rfl, p, ha, h0, hn, fun r a' H' r0 rn g1 g2 p' b' => k r r0 rn a' H' g1 g2 p' b'⟩
theorem Pen.ne {H : Hp} {d l t : Addr} {a : Int} (p : Pen H d l a) (h : H t = none) : t ≠ d := fun e => by
  obtain ⟨cs, b, h1, _⟩ := p
  rw [e, h1] at h
  cases h
def spFar : Sp := fun vs H Q _ => ∃ (d l : Addr) (a : Int), vs = [.ref d] ∧ Pen H d l a ∧ a ≤ 80000 ∧ ∀ n : Int, n.natAbs < 10 ^ 30 → Drawn d l a 15 H fun _ H' => Q (.int n) H'
def spStr (c : Int) (B : Nat) (b : Int := 70000) : Sp := fun vs H Q _ => ∃ (d l : Addr) (a : Int), vs = [.ref d] ∧ Pen H d l a ∧ a ≤ b ∧ ∀ z : Str, z.length ≤ B → Drawn d l a c H fun _ H' => Q (.str z) H'
section
variable {P : Program} {w : World} {K : PySem.W.Frag} {mg : Str → Option Value} {base : Heap} {f : Addr} {fd : FuncData}
structure DBig (P : Program) (w : World) (K : PySem.W.Frag) (mg : Str → Option Value) (base : Heap) : Prop extends DDraw P w K mg base where
  law_big : Df P w K mg base CX0 2 "_law_big" ["_law_pen_here", "_law_many"] spBig
theorem scFar : FnScope ["_law_pen_here", "_law_way"] ["_law_pen_here"] (defScope (top 27)) := ⟨rfl, rfl, rfl, by decide +kernel, rfl, by decide +kernel, by decide +kernel⟩
theorem ok_far (F : FnG K "_law_far_number" 27 f fd) (T : Tx K mg) (D : DBig P w K mg base) : FnOk P w K mg base CX0 4 f fd ["_law_pen_here"] spFar := by
  refine F.ok scFar (fun vs H Q E h => ?_) (fun cdv A outer s H vs Q E hr h => ?_)
  · obtain ⟨d, l, a, rfl, _⟩ := h
    rfl
  · obtain ⟨d, l, a, rfl, hp, ha, k⟩ := h
    refine ⟨_, PSs.nox (pss_cons (ps_set (i := 1) scFar.nd rfl (Or.inl rfl) (pe_cd D.law_draw (hr.mono (by decide)) pass0 (pa_cons (pv 0) (pa_cons pe_int pa_nil))))
        (pss_cons (ps_if (pt_cmpR op_eq (pv 1) pe_int (nomark _)) (pss_one (ps_ret (pe_cd D.law_pick (hr.mono (by decide)) pass0 (pa_cons (pv 0) (pa_cons (pe_lst (pa_cons (pe_op op_sub (pe_op op_pow pe_int pe_int) pe_int) (pa_cons (pe_op op_sub pe_int (pe_op op_pow pe_int pe_int)) (pa_cons pe_int (pa_cons (pe_un un_neg pe_int) pa_nil))))) pa_nil))))) pss_nil)
        (pss_cons (ps_if (pt_cmpR op_eq (pv 1) pe_int (nomark _)) (pss_one (ps_ret (pe_op op_add (pe_op op_sub (pe_cd D.law_big (hr.mono (by decide)) pass0 (pa_cons (pv 0) (pa_cons (pe_op op_sub (pe_op op_mul pe_int (pe_op op_pow pe_int pe_int)) pe_int) pa_nil))) (pe_op op_pow pe_int pe_int)) pe_int))) pss_nil)
        (pss_one (ps_ret (pe_op op_sub (pe_cd D.law_draw (hr.mono (by decide)) pass0 (pa_cons (pv 0) (pa_cons pe_int pa_nil))) pe_int)))))), ?_⟩
    refine ⟨_, rfl, d, l, a, _, rfl, hp, by omega, by decide, by decide, fun r a1 H1 r0 rn g1 g2 p1 b1 => ?_⟩
    refine ⟨_, rfl, rfl, _, rfl, ifC (fun h1 => ?_) (fun h1 => ?_)⟩
    · refine ⟨_, rfl, 10, 30, rfl, rfl, ⟨by decide, by decide, by decide⟩, _, _, rfl, rfl, 10, 30, rfl, rfl, ⟨by decide, by decide, by decide⟩, _, _, rfl, rfl, 1, rfl, (by show 4 ≤ sizeLine; decide), fun t ht => ?_⟩
      have s1 := same_upd (o := .lst [.int (10 ^ (30 : Int).toNat - 1), .int (1 - 10 ^ (30 : Int).toNat), .int 0, .int (-1)]) ht
      refine ⟨d, l, a1, _, rfl, p1.same s1, by omega, .inl ⟨t, _, rfl, p1.ne ht, upd_same, List.cons_ne_nil _ _, (by show 4 ≤ 1000; decide), fun x a2 H2 hx g3 g4 p2 b2 => ?_⟩⟩
      have fin : ∀ n : Int, n.natAbs < 10 ^ 30 → Q (.int n) H2 := fun n hn => k n hn a2 H2 (by omega) (by omega) p2 (b1.trans ((But.same s1).trans b2))
      rcases List.mem_cons.mp hx with rfl | hx
      · exact fin _ (by decide +kernel)
      rcases List.mem_cons.mp hx with rfl | hx
      · exact fin _ (by decide +kernel)
      rcases List.mem_cons.mp hx with rfl | hx
      · exact fin _ (by decide +kernel)
      rcases List.mem_cons.mp hx with rfl | hx
      · exact fin _ (by decide +kernel)
      · cases hx
    refine ⟨_, rfl, rfl, _, rfl, ifC (fun h2 => ?_) (fun h2 => ?_)⟩
    · refine ⟨_, rfl, 10, 30, rfl, rfl, ⟨by decide, by decide, by decide⟩, _, _, rfl, rfl, .inl ⟨by decide, by decide⟩, _, _, rfl, rfl, d, l, a1, _, rfl, p1, by omega, (by decide +kernel), (by unfold small; decide +kernel), fun r2 r3 r4 a2 H2 g3 g4 p2 b2 => ?_⟩
      refine ⟨10, 30, rfl, rfl, ⟨by decide, by decide, by decide⟩, _, _, rfl, rfl, _, _, rfl, rfl, ?_⟩
      refine k _ ?_ a2 H2 (by omega) (by omega) p2 (b1.trans b2)
      have e : (10 : Int) ^ (30 : Int).toNat = 1000000000000000000000000000000 := by decide +kernel
      rw [e] at r4 ⊢
      have e2 : (10 : Nat) ^ 30 = 1000000000000000000000000000000 := by decide +kernel
      rw [e2]
      omega
    · refine ⟨_, rfl, d, l, a1, _, rfl, p1, by omega, by decide, by decide, fun r2 a2 H2 r3 r4 g3 g4 p2 b2 => ?_⟩
      refine ⟨_, _, rfl, rfl, k _ ?_ a2 H2 (by omega) (by omega) p2 (b1.trans b2)⟩
      have e2 : (10 : Nat) ^ 30 = 1000000000000000000000000000000 := by decide +kernel
      rw [e2]
      omega
theorem join_len : ∀ ys : List Str, (∀ y ∈ ys, y.length = 1) → (Txt.join (Str.ofString "") ys).length = ys.length
  | [], _ => by rw [join_eq]; rfl
  | y :: r, h => by
    have ih := join_len r fun z hz => h z (List.mem_cons_of_mem _ hz)
    have hy := h y List.mem_cons_self
    rw [join_eq, len_tl, tl_join] at ih ⊢
    have e0 : tl (Str.ofString "") = [] := by decide +kernel
    rw [e0] at ih ⊢
    rw [List.map_cons]
    rw [len_tl] at hy
    cases r with
    | nil =>
      show (tl y).length = _
      rw [hy]
      rfl
    | cons x r =>
      rw [joinL_cons _ _ (by simp), List.length_append, List.nil_append, ih, hy]
      simp only [List.length_cons]
      omega
theorem sum_ones : ∀ ys : List Str, (∀ y ∈ ys, y.length = 1) → (ys.map (·.length)).sum = ys.length
  | [], _ => rfl
  | y :: r, h => by
    have ih := sum_ones r fun z hz => h z (List.mem_cons_of_mem _ hz)
    have hy := h y List.mem_cons_self
    simp only [List.map_cons, List.sum_cons, List.length_cons]
    omega
theorem scAny : FnScope ["_law_pen_here", "_law_letters", "_law_many", "_law_k"] ["_law_pen_here"] (defScope (top 26)) := ⟨rfl, rfl, rfl, by decide +kernel, rfl, by decide +kernel, by decide +kernel⟩
theorem ok_any (F : FnG K "_law_any_name" 26 f fd) (T : Tx K mg) (D : DDraw P w K mg base) : FnOk P w K mg base CX0 4 f fd ["_law_pen_here"] (spStr 20 20) := by
  refine F.ok scAny (fun vs H Q E h => ?_) (fun cdv A outer s H vs Q E hr h => ?_)
  · obtain ⟨d, l, a, rfl, _⟩ := h
    rfl
  · obtain ⟨d, l, a, rfl, hp, ha, k⟩ := h
    refine ⟨_, PSs.nox (pss_cons (ps_asg (pe_tup (pa_cons pe_str (pa_cons (pe_cd D.law_pick (hr.mono (by decide)) pass0 (pa_cons (pv 0) (pa_cons (pe_lst (pa_cons pe_int (pa_cons pe_int (pa_cons pe_int (pa_cons pe_int (pa_cons pe_int (pa_cons pe_int (pa_cons (pe_op op_add pe_int (pe_cd D.law_draw (hr.mono (by decide)) pass0 (pa_cons (pv 0) (pa_cons pe_int pa_nil)))) pa_nil)))))))) pa_nil))) pa_nil))) (pg_tup rfl (pgs_cons (pg_name (i := 1) scAny.nd rfl (Or.inr rfl)) (pgs_cons (pg_name (i := 2) scAny.nd rfl (Or.inl rfl)) pgs_nil))))
        (pss_one (ps_ret (pe_join pe_str (pe_lc (own := [("_law_k", 3)]) (g := gName 3) (tt := tYes) rfl scAny.nd (pi_range1 (by rfl) T.range (pa_cons (pv 2) pa_nil)) (blkOk_by (own := [("_law_k", 3)]) (N := ["_law_pen_here", "_law_letters", "_law_many", "_law_k"]) (sc := defScope (top 26)) (by decide +kernel)) (fun _ _ _ _ _ => pg_name (i := 3) scAny.nd rfl (Or.inl rfl)) (fun _ _ _ _ _ => pts_nil) (fun _ _ _ _ _ => (pe_cd D.law_pick (hr.mono (by decide)) pass0 (pa_cons (pv 0) (pa_cons (pv 1) pa_nil))))))))), ?_⟩
    refine ⟨_, rfl, _, rfl, d, l, a, _, rfl, hp, by omega, by decide, by decide, fun r a1 H1 r0 rn g1 g2 p1 b1 => ?_⟩
    refine ⟨_, _, rfl, rfl, (by show 7 ≤ sizeLine; decide), fun t ht => ?_⟩
    have s1 := same_upd (o := .lst [.int 1, .int 2, .int 11, .int 12, .int 13, .int 12, .int (1 + r)]) ht
    refine ⟨d, l, a1, _, rfl, p1.same s1, by omega, .inl ⟨t, _, rfl, p1.ne ht, upd_same, List.cons_ne_nil _ _, (by show 7 ≤ 1000; decide), fun x a2 H2 hx g3 g4 p2 b2 => ?_⟩⟩
    obtain ⟨m, rfl, m1, m2⟩ : ∃ m : Int, x = .int m ∧ 1 ≤ m ∧ m ≤ 13 := by
      simp only [List.mem_cons, List.not_mem_nil, or_false] at hx
      rcases hx with rfl | rfl | rfl | rfl | rfl | rfl | rfl
      · exact ⟨_, rfl, by decide, by decide⟩
      · exact ⟨_, rfl, by decide, by decide⟩
      · exact ⟨_, rfl, by decide, by decide⟩
      · exact ⟨_, rfl, by decide, by decide⟩
      · exact ⟨_, rfl, by decide, by decide⟩
      · exact ⟨_, rfl, by decide, by decide⟩
      · exact ⟨_, rfl, by omega, by omega⟩
    refine ⟨(by show 2 ≤ sizeLine; decide), fun t2 ht2 => ⟨t2, _, rfl, SqT.of upd_same, rfl, _, _, rfl, _, _, rfl, rfl, ?_⟩⟩
    have p3 := p2.same (same_upd (o := .tup [.str "abcdefghijklmnopqrstuvwxyz", .int m]) ht2)
    have b3 : But d H (upd H2 t2 (.tup [.str "abcdefghijklmnopqrstuvwxyz", .int m])) := b1.trans ((But.same s1).trans (b2.trans (But.same (same_upd ht2))))
    generalize upd H2 t2 (.tup [.str "abcdefghijklmnopqrstuvwxyz", .int m]) = H3 at p3 b3 ⊢
    refine ⟨⟨_, rfl⟩, ?_⟩
    have nl : ∀ D1, H3 D1 = none → l ≠ D1 := fun D1 hD => by
      obtain ⟨cs, bb, e1, e2, e3⟩ := p3
      exact ne_of_none e2 hD
    refine ⟨_, rfl, m, rfl, by omega, by omega, fun D1 hD => lc_range (lo := 0) (n := m.toNat)
      (fun i H4 => ∃ (ys : List Str) (a4 : Int), H4 D1 = some (.lst (ys.map V.str)) ∧ ys.length = i ∧ (∀ y ∈ ys, y.length = 1) ∧ Pen H4 d l a4 ∧ a ≤ a4 ∧ a4 ≤ a + 2 + i ∧ But d H H4)
      ⟨[], a2, upd_same, rfl, (fun y hy => by cases hy), p3.same (same_upd hD), by omega, by omega, b3.trans (But.same (same_upd hD))⟩ ?_ ?_⟩
    · rintro i H4 hi ⟨ys, a4, l4, hy, h1, p4, g5, g6, b4⟩
      have nd : D1 ≠ d := p3.ne hD
      refine ⟨rfl, ?_⟩
      refine iteT (B := ∃ (ys : List Str) (a4 : Int), H4 D1 = some (.lst (ys.map V.str)) ∧ ys.length = i + 1 ∧ (∀ y ∈ ys, y.length = 1) ∧ Pen H4 d l a4 ∧ a ≤ a4 ∧ a4 ≤ a + 2 + ((i + 1 : Nat) : Int) ∧ But d H H4) ?_
      refine ⟨_, rfl, _, rfl, d, l, a4, _, rfl, p4, by omega, .inr ⟨_, rfl, (by decide +kernel), (by decide +kernel), fun c a5 H5 hc g7 g8 p5 b5 => ?_⟩⟩
      have l5 := b5 D1 _ l4 nd
      refine ⟨_, l5, by rw [List.length_map, sizeLine_eq]; omega, ys ++ [⟨#[c]⟩], a5, by rw [upd_same, List.map_append]; rfl, by rw [List.length_append, hy]; rfl, fun y hy2 => ?_, ?_, by omega, by omega, ?_⟩
      · rcases List.mem_append.mp hy2 with h | h
        · exact h1 y h
        · rw [List.mem_singleton.mp h]
          rfl
      · obtain ⟨cs, bb, e1, e2, e3⟩ := p5
        exact ⟨cs, bb, by rw [upd_ne nd.symm]; exact e1, by rw [upd_ne (nl D1 hD)]; exact e2, e3⟩
      · intro c2 o z n
        rw [upd_ne (ne_of_none (b3 c2 o z n) hD)]
        exact b5 c2 o (b4 c2 o z n) n
    · rintro H4 ⟨ys, a4, l4, hy, h1, p4, g5, g6, b4⟩
      have jl := join_len ys h1
      refine ⟨_, D1, ys, rfl, rfl, .inl (SqL.of l4), ?_, k _ (by rw [jl, hy]; omega) a4 H4 g5 (by omega) p4 b4⟩
      rw [sum_ones ys h1, hy, show (Str.ofString "").length = 0 from by decide +kernel]
      omega
end
end Wd

set_option maxHeartbeats 4000000
namespace Wd
open PySem PySem.Spec PyProof.Rows L2 Wt TL NumText
theorem cut_le (z : Str) (lo hi : Option Int) : (cutS z lo hi).length ≤ z.length := by
  rw [len_tl, len_tl z]
  show (List.take _ (List.drop _ (tl z))).length ≤ _
  rw [List.length_take, List.length_drop]
  omega
theorem op_mulS {X : Cx} : OpR X (binaryOp .Mult) (fun x y H Q => ∃ (z : Str) (n : Int), x = .str z ∧ y = .int n ∧ PySem.MulOk z n ∧ Q (.str (Txt.mul z n)) H) := by
  intro pins s σ H x y v u Q I rx ry h
  obtain ⟨z, n, rfl, rfl, ok, q⟩ := h
  obtain ⟨t, rfl⟩ := rx
  obtain ⟨t', rfl⟩ := ry
  exact PySem.SB.mul ok fun t2 k => ⟨.str (Txt.mul z n), H, I.tok k, ⟨t2, rfl⟩, q⟩
def spBent : Sp := fun vs H Q _ => ∃ (d l : Addr) (a : Int) (z : Str), vs = [.ref d, .str z] ∧ Pen H d l a ∧ a ≤ 50000 ∧ z.length ≤ 160 ∧ ∀ y : Str, y.length ≤ 500 → Drawn d l a 4 H fun _ H' => Q (.str y) H'
section
variable {P : Program} {w : World} {K : PySem.W.Frag} {mg : Str → Option Value} {base : Heap} {f : Addr} {fd : FuncData}
theorem scBent : FnScope ["_law_pen_here", "_law_text", "_law_menu", "_law_way", "_law_spot"] ["_law_pen_here", "_law_text"] (defScope (top 25)) := ⟨rfl, rfl, rfl, by decide +kernel, rfl, by decide +kernel, by decide +kernel⟩
def menuS : List Str := ["a", "z", "A", "0", "7", "-", "1", " ", "  ", "+", "\n", ".", "_", ">", " to ", "zone", "  day -> keep"]
theorem menu_len : ∀ x ∈ menuS, x.length ≤ 15 := by decide +kernel
theorem ok_bent (F : FnG K "_law_bent" 25 f fd) (T : Tx K mg) (D : DDraw P w K mg base) : FnOk P w K mg base CX0 4 f fd ["_law_pen_here", "_law_text"] spBent := by
  refine F.ok scBent (fun vs H Q E h => ?_) (fun cdv A outer s H vs Q E hr h => ?_)
  · obtain ⟨d, l, a, z, rfl, _⟩ := h
    rfl
  · obtain ⟨d, l, a, z, rfl, hp, ha, hz, k⟩ := h
    refine ⟨_, PSs.nox (pss_cons (ps_set (i := 2) scBent.nd rfl (Or.inl rfl) (pe_lst (pa_cons pe_str (pa_cons pe_str (pa_cons pe_str (pa_cons pe_str (pa_cons pe_str (pa_cons pe_str (pa_cons pe_str (pa_cons pe_str (pa_cons pe_str (pa_cons pe_str (pa_cons pe_str (pa_cons pe_str (pa_cons pe_str (pa_cons pe_str (pa_cons pe_str (pa_cons pe_str (pa_cons pe_str pa_nil)))))))))))))))))))
        (pss_cons (ps_par (i := 3) (j := 4) (by rfl) scBent.nd rfl rfl (by decide) rfl rfl (pa_cons (pe_cd D.law_draw (hr.mono (by decide)) pass0 (pa_cons (pv 0) (pa_cons pe_int pa_nil))) (pa_cons (pe_cd D.law_draw (hr.mono (by decide)) pass0 (pa_cons (pv 0) (pa_cons (pe_op op_add (pe_callB call_len_str (by rfl) T.len PySem.boot_len (pa_cons (pv 1) pa_nil)) pe_int) pa_nil))) pa_nil)) (by rfl))
        (pss_cons (ps_if (pt_cmpR op_eq (pv 3) pe_int (nomark _)) (pss_one (ps_ret (pe_op op_add_str (pe_slice sl_str (pv 1) po_none (po_some (pv 4))) (pe_slice sl_str (pv 1) (po_some (pe_op op_add (pv 4) pe_int)) po_none)))) pss_nil)
        (pss_cons (ps_if (pt_cmpR op_eq (pv 3) pe_int (nomark _)) (pss_one (ps_ret (pe_op op_add_str (pe_op op_add_str (pe_slice sl_str (pv 1) po_none (po_some (pv 4))) (pe_cd D.law_pick (hr.mono (by decide)) pass0 (pa_cons (pv 0) (pa_cons (pv 2) pa_nil)))) (pe_slice sl_str (pv 1) (po_some (pv 4)) po_none)))) pss_nil)
        (pss_cons (ps_if (pt_cmpR op_eq (pv 3) pe_int (nomark _)) (pss_one (ps_ret (pe_op op_add_str (pe_op op_add_str (pe_slice sl_str (pv 1) po_none (po_some (pv 4))) (pe_slice sl_str (pv 1) (po_some (pv 4)) (po_some (pe_op op_add (pv 4) pe_int)))) (pe_slice sl_str (pv 1) (po_some (pv 4)) po_none)))) pss_nil)
        (pss_one (ps_ret (pe_op op_add_str (pe_op op_add_str (pe_slice sl_str (pv 1) po_none (po_some (pv 4))) (pe_cd D.law_pick (hr.mono (by decide)) pass0 (pa_cons (pv 0) (pa_cons (pv 2) pa_nil)))) (pe_slice sl_str (pv 1) (po_some (pe_op op_add (pv 4) pe_int)) po_none))))))))), ?_⟩
    refine ⟨(by show 17 ≤ sizeLine; decide), fun t ht => ?_⟩
    have s0 : Same H (upd H t (.lst (menuS.map V.str))) := same_upd ht
    have p0 : Pen (upd H t (.lst (menuS.map V.str))) d l a := hp.same s0
    have td : t ≠ d := hp.ne ht
    have l0 : (upd H t (.lst (menuS.map V.str))) t = some (.lst (menuS.map V.str)) := upd_same
    refine ⟨_, rfl, d, l, a, _, rfl, p0, by omega, by decide, by decide, fun r a1 H1 r0 rn g1 g2 p1 b1 => ?_⟩
    refine ⟨_, rfl, _, rfl, _, rfl, fitL (by omega), _, _, rfl, rfl, d, l, a1, _, rfl, p1, by omega, by omega, by omega, fun q a2 H2 q0 qn g3 g4 p2 b2 => ?_⟩
    refine ⟨_, _, rfl, ?_⟩
    have l2 := b2 t _ (b1 t _ l0 td) td
    have bb : But d H H2 := (But.same s0).trans (b1.trans b2)
    have cl := cut_le z
    have pk : ∀ Q2 : VK, (∀ x ∈ menuS, Drawn d l a2 1 H2 fun _ H' => Q2 (.str x) H') → spPick K [.ref d, .ref t] H2 Q2 E0 := fun Q2 k2 =>
      ⟨d, l, a2, _, rfl, p2, by omega, .inl ⟨t, _, rfl, td, l2, by decide, by decide, fun x a3 H3 hx g5 g6 p3 b3 => by
        obtain ⟨y, hy, rfl⟩ := List.mem_map.mp hx
        exact k2 y hy a3 H3 g5 g6 p3 b3⟩⟩
    have fin : ∀ y : Str, y.length ≤ 500 → Q (.str y) H2 := fun y hy => k y hy a2 H2 (by omega) (by omega) p2 bb
    have fin3 : ∀ (y : Str) (a3 : Int) (H3 : Hp), y.length ≤ 500 → a2 ≤ a3 → a3 ≤ a2 + 1 → Pen H3 d l a3 → But d H2 H3 → Q (.str y) H3 := fun y a3 H3 hy g5 g6 p3 b3 => k y hy a3 H3 (by omega) (by omega) p3 (bb.trans b3)
    refine ⟨_, rfl, rfl, _, rfl, ifC (fun h1 => ?_) (fun h1 => ?_)⟩
    · refine ⟨_, rfl, _, rfl, q, rfl, _, rfl, fitL (by omega), _, rfl, _, rfl, _, _, rfl, rfl, _, rfl, _, rfl, fitL (by omega), _, _, rfl, rfl, fitL (by have := cl none (some q); have := cl (some (q + 1)) none; omega), fin _ ?_⟩
      rw [len_app]
      have := cl none (some q)
      have := cl (some (q + 1)) none
      omega
    refine ⟨_, rfl, rfl, _, rfl, ifC (fun h2 => ?_) (fun h2 => ?_)⟩
    · refine ⟨_, rfl, _, rfl, q, rfl, _, rfl, fitL (by omega), _, rfl, _, rfl, d, l, a2, _, rfl, p2, by omega, .inl ⟨t, _, rfl, td, l2, by decide, by decide, fun x a3 H3 hx g5 g6 p3 b3 => ?_⟩⟩
      obtain ⟨y, hy, rfl⟩ := List.mem_map.mp hx
      have ly := menu_len y hy
      have c1 := cl none (some q)
      have c2 := cl (some q) none
      refine ⟨_, _, rfl, rfl, fitL (by omega), _, rfl, _, rfl, q, rfl, _, rfl, fitL (by omega), _, _, rfl, rfl, fitL (by rw [len_app]; omega), fin3 _ a3 H3 ?_ g5 g6 p3 b3⟩
      rw [len_app, len_app]
      omega
    refine ⟨_, rfl, rfl, _, rfl, ifC (fun h3 => ?_) (fun h3 => ?_)⟩
    · have c1 := cl none (some q)
      have c2 := cl (some q) (some (q + 1))
      have c3 := cl (some q) none
      refine ⟨_, rfl, _, rfl, q, rfl, _, rfl, fitL (by omega), _, rfl, _, rfl, q, rfl, _, rfl, _, _, rfl, rfl, _, rfl, _, rfl, fitL (by omega), _, _, rfl, rfl, fitL (by omega), _, rfl, _, rfl, q, rfl, _, rfl, fitL (by omega), _, _, rfl, rfl, fitL (by rw [len_app]; omega), fin _ ?_⟩
      rw [len_app, len_app]
      omega
    · refine ⟨_, rfl, _, rfl, q, rfl, _, rfl, fitL (by omega), _, rfl, _, rfl, d, l, a2, _, rfl, p2, by omega, .inl ⟨t, _, rfl, td, l2, by decide, by decide, fun x a3 H3 hx g5 g6 p3 b3 => ?_⟩⟩
      obtain ⟨y, hy, rfl⟩ := List.mem_map.mp hx
      have ly := menu_len y hy
      have c1 := cl none (some q)
      have c2 := cl (some (q + 1)) none
      refine ⟨_, _, rfl, rfl, fitL (by omega), _, rfl, _, rfl, _, _, rfl, rfl, _, rfl, _, rfl, fitL (by omega), _, _, rfl, rfl, fitL (by rw [len_app]; omega), fin3 _ a3 H3 ?_ g5 g6 p3 b3⟩
      rw [len_app, len_app]
      omega
end
end Wd

set_option maxHeartbeats 4000000
namespace Wd
open PySem PySem.Spec PyProof.Rows L2 Wt TL NumText
section
variable {P : Program} {w : World} {K : PySem.W.Frag} {mg : Str → Option Value} {base : Heap} {f : Addr} {fd : FuncData}
structure DTxt (P : Program) (w : World) (K : PySem.W.Frag) (mg : Str → Option Value) (base : Heap) : Prop extends DBig P w K mg base where
  law_far_number : Df P w K mg base CX0 4 "_law_far_number" ["_law_pen_here"] spFar
  law_any_name : Df P w K mg base CX0 4 "_law_any_name" ["_law_pen_here"] (spStr 20 20)
  law_entry_text : Df P w K mg base CX0 1 "_law_entry_text" ["_law_entry"] (spTxt K)
def odds : List Str := ["0", "-0", "00", "007", "+5", "", "-", "--3", "1_0", "5.0", "1e3"]
theorem odds_len : ∀ x ∈ odds, x.length ≤ 5 := by decide +kernel
def nines : List Int := [29, 30, 31, 60]
theorem nines_ok : ∀ n ∈ nines, (Txt.mul ("9" : Str) n).length ≤ 60 := by decide +kernel
theorem nines_mul : ∀ n ∈ nines, PySem.MulOk ("9" : Str) n := by
  intro n hn
  simp only [nines, List.mem_cons, List.not_mem_nil, or_false] at hn
  have e : ("9" : Str).length = 1 := by decide +kernel
  refine ⟨?_, fun _ _ => ?_, fun _ _ => ?_⟩
  · rcases hn with rfl | rfl | rfl | rfl <;> decide
  · rw [e]
    rcases hn with rfl | rfl | rfl | rfl <;> decide
  · rw [e]
    rcases hn with rfl | rfl | rfl | rfl <;> decide
theorem scOdd : FnScope ["_law_pen_here", "_law_way"] ["_law_pen_here"] (defScope (top 31)) := ⟨rfl, rfl, rfl, by decide +kernel, rfl, by decide +kernel, by decide +kernel⟩
theorem ok_odd (F : FnG K "_law_odd_number" 31 f fd) (T : Tx K mg) (D : DTxt P w K mg base) : FnOk P w K mg base CX0 6 f fd ["_law_pen_here"] (spStr 20 70 60000) := by
  refine F.ok scOdd (fun vs H Q E h => ?_) (fun cdv A outer s H vs Q E hr h => ?_)
  · obtain ⟨d, l, a, rfl, _⟩ := h
    rfl
  · obtain ⟨d, l, a, rfl, hp, ha, k⟩ := h
    refine ⟨_, PSs.nox (pss_cons (ps_set (i := 1) scOdd.nd rfl (Or.inl rfl) (pe_cd D.law_draw (hr.mono (by decide)) pass0 (pa_cons (pv 0) (pa_cons pe_int pa_nil))))
        (pss_cons (ps_if (pt_cmpR op_eq (pv 1) pe_int (nomark _)) (pss_one (ps_ret (pe_cd D.law_pick (hr.mono (by decide)) pass0 (pa_cons (pv 0) (pa_cons (pe_lst (pa_cons pe_str (pa_cons pe_str (pa_cons pe_str (pa_cons pe_str (pa_cons pe_str (pa_cons pe_str (pa_cons pe_str (pa_cons pe_str (pa_cons pe_str (pa_cons pe_str (pa_cons pe_str pa_nil)))))))))))) pa_nil))))) pss_nil)
        (pss_cons (ps_if (pt_cmpR op_eq (pv 1) pe_int (nomark _)) (pss_one (ps_ret (pe_op op_add_str (pe_cd D.law_pick (hr.mono (by decide)) pass0 (pa_cons (pv 0) (pa_cons (pe_lst (pa_cons pe_str (pa_cons pe_str pa_nil))) pa_nil))) (pe_op op_mulS pe_str (pe_cd D.law_pick (hr.mono (by decide)) pass0 (pa_cons (pv 0) (pa_cons (pe_lst (pa_cons pe_int (pa_cons pe_int (pa_cons pe_int (pa_cons pe_int pa_nil))))) pa_nil))))))) pss_nil)
        (pss_one (ps_ret (pe_callTy call_str_int (by rfl) T.str (by decide +kernel) (pa_cons (pe_cd D.law_far_number (hr.mono (by decide)) pass0 (pa_cons (pv 0) pa_nil)) pa_nil))))))), ?_⟩
    refine ⟨_, rfl, d, l, a, _, rfl, hp, by omega, by decide, by decide, fun r a1 H1 r0 rn g1 g2 p1 b1 => ?_⟩
    refine ⟨_, rfl, rfl, _, rfl, ifC (fun h1 => ?_) (fun h1 => ?_)⟩
    · refine ⟨_, rfl, (by show 11 ≤ sizeLine; decide), fun t ht => ?_⟩
      have s1 := same_upd (o := .lst (odds.map V.str)) ht
      refine ⟨d, l, a1, _, rfl, p1.same s1, by omega, .inl ⟨t, odds.map V.str, rfl, p1.ne ht, upd_same, by decide, by decide, fun x a2 H2 hx g3 g4 p2 b2 => ?_⟩⟩
      obtain ⟨y, hy, rfl⟩ := List.mem_map.mp hx
      have := odds_len y hy
      exact k y (by omega) a2 H2 (by omega) (by omega) p2 (b1.trans ((But.same s1).trans b2))
    refine ⟨_, rfl, rfl, _, rfl, ifC (fun h2 => ?_) (fun h2 => ?_)⟩
    · refine ⟨_, rfl, (by show 2 ≤ sizeLine; decide), fun t ht => ?_⟩
      have s1 := same_upd (o := .lst [.str "", .str "-"]) ht
      refine ⟨d, l, a1, _, rfl, p1.same s1, by omega, .inl ⟨t, _, rfl, p1.ne ht, upd_same, List.cons_ne_nil _ _, (by show 2 ≤ 1000; decide), fun x a2 H2 hx g3 g4 p2 b2 => ?_⟩⟩
      obtain ⟨y, rfl, ly⟩ : ∃ y : Str, x = .str y ∧ y.length ≤ 1 := by
        simp only [List.mem_cons, List.not_mem_nil, or_false] at hx
        rcases hx with rfl | rfl
        · exact ⟨_, rfl, by decide +kernel⟩
        · exact ⟨_, rfl, by decide +kernel⟩
      refine ⟨_, rfl, (by show 4 ≤ sizeLine; decide), fun u hu => ?_⟩
      have s2 := same_upd (o := .lst (nines.map V.int)) hu
      refine ⟨d, l, a2, _, rfl, p2.same s2, by omega, .inl ⟨u, nines.map V.int, rfl, p2.ne hu, upd_same, by decide, by decide, fun x a3 H3 hx g5 g6 p3 b3 => ?_⟩⟩
      obtain ⟨n, hn, rfl⟩ := List.mem_map.mp hx
      have ln := nines_ok n hn
      refine ⟨_, n, rfl, rfl, nines_mul n hn, _, _, rfl, rfl, fitL (by omega), ?_⟩
      exact k _ (by rw [len_app]; omega) a3 H3 (by omega) (by omega) p3 (b1.trans ((But.same s1).trans (b2.trans ((But.same s2).trans b3))))
    · refine ⟨_, rfl, d, l, a1, rfl, p1, by omega, fun n hn a2 H2 g3 g4 p2 b2 => ?_⟩
      have sn : small n := Nat.lt_of_lt_of_le hn (by decide +kernel)
      have := small_len sn
      exact ⟨_, rfl, small_log sn, k _ (by show (strI n).length ≤ 70; omega) a2 H2 (by omega) (by omega) p2 (b1.trans b2)⟩
structure DTxt2 (P : Program) (w : World) (K : PySem.W.Frag) (mg : Str → Option Value) (base : Heap) : Prop extends DTxt P w K mg base where
  law_odd_number : Df P w K mg base CX0 6 "_law_odd_number" ["_law_pen_here"] (spStr 20 70 60000)
def kindsO : List Str := ["day", "float", "zoned", "fixed", "zoned", "days", "Float", ""]
def tos : List Str := [" to ", " to ", " to ", " ", " for "]
theorem kindsO_len : ∀ x ∈ kindsO, x.length ≤ 5 := by decide +kernel
theorem tos_len : ∀ x ∈ tos, x.length ≤ 5 := by decide +kernel
theorem scOt : FnScope ["_law_pen_here", "_law_kind", "_law_text"] ["_law_pen_here"] (defScope (top 32)) := ⟨rfl, rfl, rfl, by decide +kernel, rfl, by decide +kernel, by decide +kernel⟩
theorem ok_ot (F : FnG K "_law_odd_text" 32 f fd) (T : Tx K mg) (D : DTxt2 P w K mg base) : FnOk P w K mg base CX0 8 f fd ["_law_pen_here"] (spStr 100 250 50000) := by
  refine F.ok scOt (fun vs H Q E h => ?_) (fun cdv A outer s H vs Q E hr h => ?_)
  · obtain ⟨d, l, a, rfl, _⟩ := h
    rfl
  · obtain ⟨d, l, a, rfl, hp, ha, k⟩ := h
    refine ⟨_, PSs.nox (pss_cons (ps_set (i := 1) scOt.nd rfl (Or.inl rfl) (pe_cd D.law_pick (hr.mono (by decide)) pass0 (pa_cons (pv 0) (pa_cons (pe_lst (pa_cons pe_str (pa_cons pe_str (pa_cons pe_str (pa_cons pe_str (pa_cons pe_str (pa_cons pe_str (pa_cons pe_str (pa_cons pe_str pa_nil))))))))) pa_nil))))
        (pss_cons (ps_set (i := 2) scOt.nd rfl (Or.inl rfl) (pe_op op_add_str (pe_op op_add_str (pe_op op_add_str (pv 1) pe_str) (pe_cd D.law_odd_number (hr.mono (by decide)) pass0 (pa_cons (pv 0) pa_nil))) (pe_cd D.law_pick (hr.mono (by decide)) pass0 (pa_cons (pv 0) (pa_cons (pe_lst (pa_cons pe_str (pa_cons pe_str (pa_cons pe_str (pa_cons pe_str (pa_cons pe_str pa_nil)))))) pa_nil)))))
        (pss_one (ps_ret (pe_op op_add_str (pe_op op_add_str (pv 2) (pe_cd D.law_odd_number (hr.mono (by decide)) pass0 (pa_cons (pv 0) pa_nil))) (pe_cd D.law_pick (hr.mono (by decide)) pass0 (pa_cons (pv 0) (pa_cons (pe_lst (pa_cons pe_str (pa_cons (pe_op op_add_str pe_str (pe_cd D.law_any_name (hr.mono (by decide)) pass0 (pa_cons (pv 0) pa_nil))) (pa_cons pe_str (pa_cons pe_str pa_nil))))) pa_nil)))))))), ?_⟩
    have g1 : (" " : Str).length = 1 := by decide +kernel
    refine ⟨_, rfl, (by show 8 ≤ sizeLine; decide), fun t ht => ?_⟩
    have s1 := same_upd (o := .lst (kindsO.map V.str)) ht
    refine ⟨d, l, a, _, rfl, hp.same s1, by omega, .inl ⟨t, kindsO.map V.str, rfl, hp.ne ht, upd_same, by decide, by decide, fun x a2 H2 hx g3 g4 p2 b2 => ?_⟩⟩
    obtain ⟨kd, hk, rfl⟩ := List.mem_map.mp hx
    have lk := kindsO_len kd hk
    have b2' : But d H H2 := (But.same s1).trans b2
    refine ⟨_, rfl, _, _, rfl, rfl, fitL (by omega), _, rfl, d, l, a2, rfl, p2, by omega, fun n1 ln1 a3 H3 g5 g6 p3 b3 => ?_⟩
    refine ⟨_, _, rfl, rfl, fitL (by rw [len_app]; omega), _, rfl, (by show 5 ≤ sizeLine; decide), fun u hu => ?_⟩
    have s2 := same_upd (o := .lst (tos.map V.str)) hu
    refine ⟨d, l, a3, _, rfl, p3.same s2, by omega, .inl ⟨u, tos.map V.str, rfl, p3.ne hu, upd_same, by decide, by decide, fun x a4 H4 hx4 g7 g8 p4 b4 => ?_⟩⟩
    obtain ⟨tt, htt, rfl⟩ := List.mem_map.mp hx4
    have ltt := tos_len tt htt
    refine ⟨_, _, rfl, rfl, fitL (by simp only [len_app]; omega), ?_⟩
    have b4' : But d H H4 := b2'.trans (b3.trans ((But.same s2).trans b4))
    refine ⟨_, rfl, _, rfl, d, l, a4, rfl, p4, by omega, fun n2 ln2 a5 H5 g9 g10 p5 b5 => ?_⟩
    refine ⟨_, _, rfl, rfl, fitL (by simp only [len_app]; omega), _, rfl, _, rfl, d, l, a5, rfl, p5, by omega, fun nm ln a6 H6 g11 g12 p6 b6 => ?_⟩
    refine ⟨_, _, rfl, rfl, fitL (by omega), (by show 4 ≤ sizeLine; decide), fun v hv => ?_⟩
    have s3 := same_upd (o := .lst [.str "", .str (" " ++ nm), .str " Q", .str " "]) hv
    refine ⟨d, l, a6, _, rfl, p6.same s3, by omega, .inl ⟨v, _, rfl, p6.ne hv, upd_same, List.cons_ne_nil _ _, (by show 4 ≤ 1000; decide), fun x a7 H7 hx g13 g14 p7 b7 => ?_⟩⟩
    obtain ⟨y, rfl, ly⟩ : ∃ y : Str, x = .str y ∧ y.length ≤ 30 := by
      simp only [List.mem_cons, List.not_mem_nil, or_false] at hx
      rcases hx with rfl | rfl | rfl | rfl
      · exact ⟨_, rfl, by decide +kernel⟩
      · exact ⟨_, rfl, by rw [len_app]; omega⟩
      · exact ⟨_, rfl, by decide +kernel⟩
      · exact ⟨_, rfl, by decide +kernel⟩
    refine ⟨_, _, rfl, rfl, fitL (by simp only [len_app]; omega), ?_⟩
    exact k _ (by simp only [len_app]; omega) a7 H7 (by omega) (by omega) p7 (b4'.trans (b5.trans (b6.trans ((But.same s3).trans b7))))
theorem scRt : FnScope ["_law_pen_here", "_law_kind", "_law_first", "_law_last"] ["_law_pen_here"] (defScope (top 30)) := ⟨rfl, rfl, rfl, by decide +kernel, rfl, by decide +kernel, by decide +kernel⟩
theorem ok_rt (F : FnG K "_law_right_text" 30 f fd) (T : Tx K mg) (D : DTxt P w K mg base) : FnOk P w K mg base CX0 6 f fd ["_law_pen_here"] (spStr 60 160 50000) := by
  refine F.ok scRt (fun vs H Q E h => ?_) (fun cdv A outer s H vs Q E hr h => ?_)
  · obtain ⟨d, l, a, rfl, _⟩ := h
    rfl
  · obtain ⟨d, l, a, rfl, hp, ha, k⟩ := h
    refine ⟨_, PSs.nox (pss_cons (ps_set (i := 1) scRt.nd rfl (Or.inl rfl) (pe_cd D.law_pick (hr.mono (by decide)) pass0 (pa_cons (pv 0) (pa_cons (pe_lst (pa_cons pe_str (pa_cons pe_str (pa_cons pe_str (pa_cons pe_str pa_nil))))) pa_nil))))
        (pss_cons (ps_asg (pe_callB cr_sorted (by rfl) T.sorted (by decide +kernel) (pa_cons (pe_lst (pa_cons (pe_cd D.law_far_number (hr.mono (by decide)) pass0 (pa_cons (pv 0) pa_nil)) (pa_cons (pe_cd D.law_far_number (hr.mono (by decide)) pass0 (pa_cons (pv 0) pa_nil)) pa_nil))) pa_nil)) (pg_unl rfl (pgs_cons (pg_name (i := 2) scRt.nd rfl (Or.inl rfl)) (pgs_cons (pg_name (i := 3) scRt.nd rfl (Or.inl rfl)) pgs_nil))))
        (pss_one (ps_ret (pe_cd D.law_entry_text (hr.mono (by decide)) pass0 (pa_cons (pe_tup (pa_cons (pv 1) (pa_cons (pv 2) (pa_cons (pv 3) (pa_cons (pe_ifExp (pt_cmpR op_eq (pv 1) pe_str (nomark _)) (pe_cd D.law_any_name (hr.mono (by decide)) pass0 (pa_cons (pv 0) pa_nil)) pe_non) pa_nil))))) pa_nil)))))), ?_⟩
    refine ⟨_, rfl, (by show 4 ≤ sizeLine; decide), fun t ht => ?_⟩
    have s1 := same_upd (o := .lst (KS.map V.str)) ht
    refine ⟨d, l, a, _, rfl, hp.same s1, by omega, .inl ⟨t, KS.map V.str, rfl, hp.ne ht, upd_same, by decide, by decide, fun x a2 H2 hx g3 g4 p2 b2 => ?_⟩⟩
    obtain ⟨kd, hk, rfl⟩ := List.mem_map.mp hx
    have lk := ks_len hk
    have b2' : But d H H2 := (But.same s1).trans b2
    refine ⟨_, rfl, d, l, a2, rfl, p2, by omega, fun n1 hn1 a3 H3 g5 g6 p3 b3 => ?_⟩
    refine ⟨_, rfl, d, l, a3, rfl, p3, by omega, fun n2 hn2 a4 H4 g7 g8 p4 b4 => ?_⟩
    refine ⟨(by show 2 ≤ sizeLine; decide), fun u hu => ⟨u, [n1, n2], rfl, SqL.of upd_same, (by show 2 < 64; decide), fun ns v perm _ hv => ?_⟩⟩
    have s2 : Same H4 (upd (upd H4 u (.lst [.int n1, .int n2])) v (.lst (ns.map V.int))) := (same_upd hu).trans (same_upd hv)
    have p5 := p4.same s2
    have l5 : (upd (upd H4 u (.lst [.int n1, .int n2])) v (.lst (ns.map V.int))) v = some (.lst (ns.map V.int)) := upd_same
    have b5 : But d H (upd (upd H4 u (.lst [.int n1, .int n2])) v (.lst (ns.map V.int))) := b2'.trans (b3.trans (b4.trans (But.same s2)))
    have len2 : ns.length = 2 := perm.length_eq
    obtain ⟨m1, m2, rfl⟩ : ∃ m1 m2, ns = [m1, m2] := by
      match ns, len2 with
      | [m1, m2], _ => exact ⟨m1, m2, rfl⟩
    have sm : ∀ m ∈ [m1, m2], small m := fun m hm => by
      have := perm.mem_iff.mp hm
      simp only [List.mem_cons, List.not_mem_nil, or_false] at this
      rcases this with rfl | rfl
      · exact Nat.lt_of_lt_of_le hn1 (by decide +kernel)
      · exact Nat.lt_of_lt_of_le hn2 (by decide +kernel)
    have sm1 := sm m1 (by simp)
    have sm2 := sm m2 (by simp)
    generalize upd (upd H4 u (.lst [.int n1, .int n2])) v (.lst ([m1, m2].map V.int)) = H5 at p5 l5 b5 ⊢
    refine ⟨v, _, rfl, SqL.of l5, rfl, _, _, rfl, _, _, rfl, rfl, ?_⟩
    have lenT : ∀ o : Option Str, (∀ n, o = some n → n.length ≤ 20) → (mkT kd m1 m2 o).length ≤ 160 := fun o ho => by
      rw [← mk_glued]
      have e1 := small_len sm1
      have e2 := small_len sm2
      have g1 : (" " : Str).length = 1 := by decide +kernel
      have g4 : (" to " : Str).length = 4 := by decide +kernel
      have e3 : (tailS o).length ≤ 21 := by
        cases o with
        | none => exact Nat.zero_le _
        | some n =>
          have := ho n rfl
          unfold tailS
          rw [len_app]
          omega
      simp only [len_app]
      omega
    refine ⟨_, rfl, _, rfl, _, rfl, _, rfl, rfl, _, rfl, ifC (fun h6 => ?_) (fun h6 => ?_)⟩
    · refine ⟨_, rfl, d, l, a4, rfl, p5, by omega, fun nm ln a6 H6 g11 g12 p6 b6 => ?_⟩
      refine ⟨(by show 4 ≤ sizeLine; decide), fun q hq => ?_⟩
      have s3 := same_upd (o := .tup [.str kd, .int m1, .int m2, .str nm]) hq
      refine ⟨q, kd, m1, m2, some nm, rfl, SqT.of upd_same, by omega, sm1, sm2, fun n e => (by cases e; omega), ?_⟩
      exact k _ (lenT _ fun n e => by cases e; exact ln) a6 _ (by omega) (by omega) (p6.same s3) (b5.trans (b6.trans (But.same s3)))
    · refine ⟨(by show 4 ≤ sizeLine; decide), fun q hq => ?_⟩
      have s3 := same_upd (o := .tup [.str kd, .int m1, .int m2, .non]) hq
      refine ⟨q, kd, m1, m2, none, rfl, SqT.of upd_same, by omega, sm1, sm2, fun n e => (by cases e), ?_⟩
      exact k _ (lenT _ fun n e => by cases e) a4 _ (by omega) (by omega) (p5.same s3) (b5.trans (But.same s3))
end
end Wd

set_option maxHeartbeats 4000000
namespace Wd
open PySem PySem.Spec PyProof.Rows L2 Wt TL NumText
/-- isinstance(e, c) of a caught error with a dict -/
def rIsC (K : PySem.W.Frag) (a : Addr) (cls : Value) (d : Option Addr) : List V → Hp → VK → Prop := fun xs H Q =>
  ∃ (C dd : Addr) (fs : List (Str × V)) (c : V) (u : Value) (b : Bool), xs = [.ref a, c] ∧ cls = .ref C ∧ d = some dd ∧ ErrC K C ∧ H dd = some (.xd fs) ∧ ClsV c u ∧ PySem.W.kitOne K (.ref C) u = some b ∧ Q (.bl b) H
theorem call_isC {X : Cx} {a : Addr} {cls : Value} {d : Option Addr} {oe : Obj} {pn : List (Addr × Obj)} (hz : Zc cls d oe) (hf : ∃ vs, oe.data = .fields vs) : CallR (X.suite a ((a, oe) :: pn)) (.builtin "isinstance") (rIsC X.K a cls d) := by
  intro pins s σ H xs us Q I r h
  obtain ⟨C, dd, fs, c, u, b, rfl, rfl, rfl, T, hd, k, e, q⟩ := h
  obtain ⟨u1, u2, rfl, r1, r2⟩ := vals2 r
  obtain rfl : u1 = Value.ref a := r1
  obtain rfl := k.eq r2
  obtain ⟨ha, _⟩ := I.pin (a, oe) (List.mem_append_left _ List.mem_cons_self)
  obtain ⟨vs, hv⟩ := hf
  obtain ⟨mA, hns, hr⟩ := (show ObjOk X.prog X.w H s.heap dd (.xd fs) from I.hok dd _ hd)
  obtain ⟨od, ho, hl⟩ := lookIn_ns hns
  have J : PySem.W.InstAt s.heap a oe C (some od) := ⟨ha, hz.1, by unfold PySem.W.notCls; rw [hv] <;> rfl, by rw [hz.2]; exact ho⟩
  exact PySem.W.kia_one (PySem.W.kitx_exc T.isC T.ga T.gg T.be T.cc T.cg T.ct T.ob) I.kIn J e (fun z => nomatch z)
    fun tk => ⟨.bl b, H, I.tok tk, rfl, q⟩
/-- what a call lets out is taken at frames of n slots -/
def atLen (n : Nat) (W : WX) : XK := fun cls d H => ∀ σ, σ.length = n → W cls d σ H
theorem passLen {X : Cx} {W : WX} {n : Nat} (tk : Takes X W) (hn : X.N.length = n) : Passes (L2.CX X.prog X.w) X (atLen n W) :=
  fun _ σ _ _ e s' I c => tk e s' (XE.of_call I (fun _ _ _ h => h σ (I.len.trans hn)) c)
/-- what is due of a text -/
def dueV : Option (Str × Str × Int × Int × Option Str) → List V
  | none => [.str "refused", .int 1, .bl true, .bl true]
  | some (z, k, a, b, o) => [.str z, .str k, .int a, .int b, oS o, .bl true]
def Due (z : Str) (r : Option (Str × Str × Int × Int × Option Str)) : Prop := (∃ k a b o, RdW (some 30) (words z) k a b o ∧ r = some (z, k, a, b, o)) ∨ ((∀ k a b o, ¬ RdW (some 30) (words z) k a b o) ∧ r = none)
def spRead (K : PySem.W.Frag) : Sp := fun vs H Q _ => ∃ v, vs = [v] ∧
  ((∃ z : Str, v = .str z ∧ z.length ≤ 600 ∧ ∀ r, Due z r → ∀ p H', Same H H' → H' p = some (.tup (dueV r)) → Q (.ref p) H') ∨
    ((∀ H', Same H H' → NoText K H' v) ∧ ∀ p H', Same H H' → H' p = some (.tup (dueV none)) → Q (.ref p) H'))
section
variable {P : Program} {w : World} {K : PySem.W.Frag} {mg : Str → Option Value} {base : Heap} {f : Addr} {fd : FuncData}
structure DRead (P : Program) (w : World) (K : PySem.W.Frag) (mg : Str → Option Value) (base : Heap) (CB : Addr) : Prop extends DOf P w K mg base CB where
  law_whole : Df P w K mg base CX0 1 "_law_whole" ["_law_number_here"] spWhole
  bt : Bt P w K mg base CB
  exm : PySem.W.exmOne K (.ref CB) (.ref CB) = some true
  k1 : PySem.W.kitOne K (.ref CB) (.ref (He.ga K "WhosedayError")) = some true
  k2 : PySem.W.kitOne K (.ref CB) (.type "ValueError") = some true
  we : mg "WhosedayError" = some (.ref (He.ga K "WhosedayError"))
theorem scRead : FnScope ["_law_text", "_law_entry", "e", "_law_whole_here"] ["_law_text"] (defScope (top 28)) := ⟨rfl, rfl, rfl, by decide +kernel, rfl, by decide +kernel, by decide +kernel⟩
theorem ok_read {CB : Addr} (F : FnG K "_law_read" 28 f fd) (T : Tx K mg) (D : DRead P w K mg base CB) : FnOk P w K mg base CX0 6 f fd ["_law_text"] (spRead K) := by
  refine F.ok scRead (fun vs H Q E h => ?_) (fun cdv A outer s H vs Q E hr h => ?_)
  · obtain ⟨v, rfl, _⟩ := h
    rfl
  · obtain ⟨v, rfl, h⟩ := h
    obtain ⟨fdI, GI, _, ds, rE, Bent⟩ := D.ini
    have XT : XfC K CB := ⟨D.bt.err.ga, D.bt.err.gg, D.bt.err.be, D.bt.err.hd⟩
    refine ⟨_, PSs.nox (pss_cons (ps_try_as (i := 2) rfl rfl scRead.nd rfl rfl ⟨rfl, by decide, .inl D.bt.glo⟩ takes0
        (fun W pn xe tk _ => pss_one (ps_set (i := 1) scRead.nd rfl (Or.inl rfl) (pe_make (E := atLen 4 W) D.mkE GI (hr.mono (by decide)) rfl T.Entry Bent rE (passLen tk rfl) (pa_cons (pv 0) pa_nil))))
        (fun a oe cls d pn hz hf => pss_one (ps_ret (pe_tup (pa_cons pe_str (pa_cons (pe_xf XT D.bt.nof hz hf (pv 2)) (pa_cons (pe_callB (call_isC hz hf) rfl T.isinstance (by decide +kernel) (pa_cons (pv 2) (pa_cons (pe_glob (v := .ref (He.ga K "WhosedayError")) rfl D.we rfl) pa_nil))) (pa_cons (pe_callB (call_isC hz hf) rfl T.isinstance (by decide +kernel) (pa_cons (pv 2) (pa_cons (pe_bltn (v := .ty "ValueError") (by rfl) T.ve (by decide +kernel) rfl) pa_nil))) pa_nil))))))))
        (pss_cons (ps_set (i := 3) scRead.nd rfl (Or.inl rfl) (pe_and (pe_cd D.law_whole (hr.mono (by decide)) pass0 (pa_cons (pe_fld (pv 1) rfl) pa_nil)) (pe_one (pe_cd D.law_whole (hr.mono (by decide)) pass0 (pa_cons (pe_fld (pv 1) rfl) pa_nil)))))
        (pss_one (ps_ret (pe_tup (pa_cons (pe_fld (pv 1) rfl) (pa_cons (pe_fld (pv 1) rfl) (pa_cons (pe_fld (pv 1) rfl) (pa_cons (pe_fld (pv 1) rfl) (pa_cons (pe_fld (pv 1) rfl) (pa_cons (pv 3) pa_nil))))))))))), ?_⟩
    have four : ∀ σ : L2.St, σ.length = 4 → ∃ x0 x1 x2 x3, σ = [x0, x1, x2, x3] := fun σ hl => match σ, hl with
      | [x0, x1, x2, x3], _ => ⟨x0, x1, x2, x3, rfl⟩
    have s0 : ∀ x dx, H x = none → H dx = none → Same H (upd (upd H dx (.own x)) x (.ins (He.ga K "Entry") dx [])) := fun x dx nx ndx c u q => by
      rw [upd_ne (ne_of_none q nx), upd_ne (ne_of_none q ndx)]
      exact q
    refine ⟨_, rfl, fun x dx nx ndx ne => ⟨x, dx, v, some 30, rfl, upd_same, ?_⟩⟩
    have s1 := s0 x dx nx ndx
    rcases h with ⟨z, rfl, hz, k⟩ | ⟨nt, k⟩
    rotate_left
    · refine .inr ⟨nt _ s1, fun d H2 s2 hd e σ hl => ⟨true, D.exm, fun _ a ha => ?_, fun z => nomatch z⟩⟩
      obtain ⟨x0, x1, x2, x3, rfl⟩ := four σ hl
      refine ⟨_, rfl, rfl, rfl, d, _, .int 1, rfl, e, (by decide +kernel), ?_⟩
      refine ⟨_, rfl, CB, d, _, _, _, true, rfl, rfl, rfl, D.bt.err, e, .own _, D.k1, ?_⟩
      refine ⟨_, rfl, CB, d, _, _, _, true, rfl, rfl, rfl, D.bt.err, e, .ty _, D.k2, (by show 4 ≤ sizeLine; decide), fun p hp => ?_⟩
      exact k p _ (s1.trans (s2.trans (same_upd hp))) upd_same
    · refine .inl ⟨z, rfl, hz, fun kd a b o rd H' kp en => ⟨rfl, ?_⟩, fun no d H2 s2 hd e σ hl => ⟨true, D.exm, fun _ a ha => ?_, fun z => nomatch z⟩⟩
      rotate_left
      · obtain ⟨x0, x1, x2, x3, rfl⟩ := four σ hl
        refine ⟨_, rfl, rfl, rfl, d, _, .int 1, rfl, e, (by decide +kernel), ?_⟩
        refine ⟨_, rfl, CB, d, _, _, _, true, rfl, rfl, rfl, D.bt.err, e, .own _, D.k1, ?_⟩
        refine ⟨_, rfl, CB, d, _, _, _, true, rfl, rfl, rfl, D.bt.err, e, .ty _, D.k2, (by show 4 ≤ sizeLine; decide), fun p hp => ?_⟩
        exact k none (.inr ⟨no, rfl⟩) p _ (s1.trans (s2.trans (same_upd hp))) upd_same
      · obtain ⟨dy, hE⟩ := en
        have s2 : Same H H' := fun c u q => kp c u (s1 c u q) (ne_of_none q nx)
        refine ⟨_, rfl, x, _, dy, _, _, rfl, hE, T.cl, T.n3, lk_first, a, rfl, _, rfl, iteT ?_⟩
        refine ⟨_, rfl, x, _, dy, _, _, rfl, hE, T.cl, T.n4, lk_last, b, rfl, ?_⟩
        refine ⟨_, rfl, x, _, dy, _, _, rfl, hE, T.cl, T.n1, lk_text, ?_⟩
        refine ⟨_, rfl, x, _, dy, _, _, rfl, hE, T.cl, T.n2, lk_kind, ?_⟩
        refine ⟨_, rfl, x, _, dy, _, _, rfl, hE, T.cl, T.n3, lk_first, ?_⟩
        refine ⟨_, rfl, x, _, dy, _, _, rfl, hE, T.cl, T.n4, lk_last, ?_⟩
        refine ⟨_, rfl, x, _, dy, _, _, rfl, hE, T.cl, T.n5, lk_zone, ?_⟩
        refine ⟨_, rfl, (by show 6 ≤ sizeLine; decide), fun p hp => ?_⟩
        exact k (some (z, kd, a, b, o)) (.inl ⟨kd, a, b, o, rd, rfl⟩) p _ (s2.trans (same_upd hp)) upd_same
end
end Wd

set_option maxHeartbeats 4000000
namespace Wd
open PySem PySem.Spec PyProof.Rows L2 Wt TL NumText
def spDue : Sp := fun vs H Q _ => ∃ z : Str, vs = [.str z] ∧ z.length ≤ 600 ∧ ∀ r, Due z r → ∀ p H', Same H H' → H' p = some (.tup (dueV r)) → Q (.ref p) H'
section
variable {P : Program} {w : World} {K : PySem.W.Frag} {mg : Str → Option Value} {base : Heap} {f : Addr} {fd : FuncData}
structure DDue (P : Program) (w : World) (K : PySem.W.Frag) (mg : Str → Option Value) (base : Heap) : Prop where
  law_number : Df P w K mg base CX0 1 "_law_number" ["_law_text"] spNumS
  law_is_name : Df P w K mg base CX0 1 "_law_is_name" ["_law_text"] spNameS
theorem scDue : FnScope ["_law_text", "_law_words", "_law_many", "_law_refusal", "_law_first", "_law_last"] ["_law_text"] (defScope (top 29)) := ⟨rfl, rfl, rfl, by decide +kernel, rfl, by decide +kernel, by decide +kernel⟩
theorem ok_due (F : FnG K "_law_entry_due" 29 f fd) (T : Tx K mg) (D : DDue P w K mg base) : FnOk P w K mg base CX0 2 f fd ["_law_text"] spDue := by
  refine F.ok scDue (fun vs H Q E h => ?_) (fun cdv A outer s H vs Q E hr h => ?_)
  · obtain ⟨z, rfl, _⟩ := h
    rfl
  · obtain ⟨z, rfl, hz, k⟩ := h
    refine ⟨_, PSs.nox (pss_cons (ps_set (i := 1) scDue.nd rfl (Or.inl rfl) (pe_split (pv 0) pe_str))
        (pss_cons (ps_set (i := 2) scDue.nd rfl (Or.inl rfl) (pe_ifExp (pt_cmpR op_eq (pe_ix ix_list (pv 1) pe_int (fun _ _ => rfl)) pe_str (nomark _)) pe_int pe_int))
        (pss_cons (ps_set (i := 3) scDue.nd rfl (Or.inl rfl) (pe_tup (pa_cons pe_str (pa_cons pe_int (pa_cons pe_bl (pa_cons pe_bl pa_nil))))))
        (pss_cons (ps_if (PW.pt (pw_or (pt_cmpR op_notIn_seq (pe_ix ix_list (pv 1) pe_int (fun _ _ => rfl)) (pe_tup (pa_cons pe_str (pa_cons pe_str (pa_cons pe_str (pa_cons pe_str pa_nil))))) (by rfl)) (pw_or (pt_cmpR op_ne (pe_callB call_len (by rfl) T.len PySem.boot_len (pa_cons (pv 1) pa_nil)) (pv 2) (nomark _)) (pw_or1 (pt_cmpR op_ne (pe_ix ix_list (pv 1) pe_int (fun _ _ => rfl)) pe_str (nomark _)))))) (pss_one (ps_ret (pv 3))) pss_nil)
        (pss_cons (ps_par (i := 4) (j := 5) (by rfl) scDue.nd rfl rfl (by decide) rfl rfl (pa_cons (pe_cd D.law_number (hr.mono (by decide)) pass0 (pa_cons (pe_ix ix_list (pv 1) pe_int (fun _ _ => rfl)) pa_nil)) (pa_cons (pe_cd D.law_number (hr.mono (by decide)) pass0 (pa_cons (pe_ix ix_list (pv 1) pe_int (fun _ _ => rfl)) pa_nil)) pa_nil)) (by rfl))
        (pss_cons (ps_if (PW.pt (pw_or (pt_cmpR op_isN (pv 4) pe_non (nomark _)) (pw_or (pt_cmpR op_isN (pv 5) pe_non (nomark _)) (pw_or1 (pt_cmpR op_gt (pv 4) (pv 5) (nomark _)))))) (pss_one (ps_ret (pv 3))) pss_nil)
        (pss_cons (ps_if (pt_cmpR op_eq (pv 2) pe_int (nomark _)) (pss_one (ps_ret (pe_tup (pa_cons (pv 0) (pa_cons (pe_ix ix_list (pv 1) pe_int (fun _ _ => rfl)) (pa_cons (pv 4) (pa_cons (pv 5) (pa_cons pe_non (pa_cons pe_bl pa_nil))))))))) pss_nil)
        (pss_one (ps_ret (pe_ifExp (pt_val (pe_cd D.law_is_name (hr.mono (by decide)) pass0 (pa_cons (pe_ix ix_list (pv 1) pe_int (fun _ _ => rfl)) pa_nil))) (pe_tup (pa_cons (pv 0) (pa_cons (pe_ix ix_list (pv 1) pe_int (fun _ _ => rfl)) (pa_cons (pv 4) (pa_cons (pv 5) (pa_cons (pe_ix ix_list (pv 1) pe_int (fun _ _ => rfl)) (pa_cons pe_bl pa_nil))))))) (pv 3))))))))))), ?_⟩
    refine ⟨_, rfl, ⟨_, rfl⟩, _, _, rfl, rfl, (by decide +kernel), (by rw [sizeLine_eq]; omega), fun l hl => ?_⟩
    have s1 : Same H (upd H l (.lst ((Txt.split z " ").map V.str))) := same_upd hl
    have l1 : (upd H l (.lst ((Txt.split z " ").map V.str))) l = some (.lst ((Txt.split z " ").map V.str)) := upd_same
    generalize upd H l (.lst ((Txt.split z " ").map V.str)) = H1 at s1 l1 ⊢
    have l1 : H1 l = some (.lst ((words z).map V.str)) := l1
    have hne := words_ne z
    have hzl : ∀ q ∈ words z, q.length ≤ 600 := fun q hq => by have := words_len hq; omega
    have hc : (words z).length ≤ 1000 := by have := words_count z; omega
    have k1 : ∀ r, ((∃ k a b o, RdW (some 30) (words z) k a b o ∧ r = some (z, k, a, b, o)) ∨ ((∀ k a b o, ¬ RdW (some 30) (words z) k a b o) ∧ r = none)) → ∀ p H', Same H H' → H' p = some (.tup (dueV r)) → Q (.ref p) H' := k
    generalize words z = ws at l1 hne hzl hc k1
    obtain ⟨kd, rst, hw⟩ := List.exists_cons_of_ne_nil hne
    have h0 : ws.head? = some kd := by rw [hw]; rfl
    have i0 : atI (ws.map V.str) 0 = some (.str kd) := atI_nat (j := 0) (by rw [hw]; rfl)
    refine ⟨_, rfl, l, _, _, _, rfl, rfl, SqL.of l1, i0, rfl, _, rfl, ?_⟩
    have bad1 : ¬ (kd ∈ KS) → ∀ k a b o, ¬ RdW (some 30) ws k a b o := fun h k' a b o q => h (by
      have := q.sp
      rw [hw] at this
      rw [(List.cons.inj this).1]
      exact q.kin)
    have bad2 : (ws.length : Int) ≠ (if kd = "zoned" then 5 else 4) → ∀ k a b o, ¬ RdW (some 30) ws k a b o := fun h k' a b o q => h (by
      have e := q.sp
      have ek : kd = k' := by
        rw [hw] at e
        exact (List.cons.inj e).1
      have el := congrArg List.length e
      rw [ek]
      cases o with
      | none =>
        rw [if_neg fun z => by
          have := q.zo.mpr z
          cases this]
        simp only [Option.toList, List.append_nil, List.length_cons, List.length_nil] at el
        omega
      | some n =>
        rw [if_pos (q.zo.mp rfl)]
        simp only [Option.toList, List.length_append, List.length_cons, List.length_nil] at el
        omega)
    refine ifC (fun hzo => ?_) (fun hzo => ?_)
    all_goals
      refine ⟨(by show 4 ≤ sizeLine; decide), fun t ht => ?_⟩
      have l2 := same_upd (o := .tup [.str "refused", .int 1, .bl true, .bl true]) ht _ _ l1
      refine ⟨_, rfl, l, _, _, _, rfl, rfl, SqL.of l2, i0, (by show 4 ≤ sizeLine; decide), fun u hu => ?_⟩
      have lU : (upd (upd H1 t (.tup [.str "refused", .int 1, .bl true, .bl true])) u (.tup [.str "day", .str "float", .str "zoned", .str "fixed"])) u = some (.tup [.str "day", .str "float", .str "zoned", .str "fixed"]) := upd_same
      have su := same_upd (o := .tup [.str "day", .str "float", .str "zoned", .str "fixed"]) hu
      have s3 := s1.trans ((same_upd (o := .tup [.str "refused", .int 1, .bl true, .bl true]) ht).trans su)
      have l3 := su _ _ l2
      have lR := su _ _ (upd_same (H := H1) (a := t) (o := .tup [.str "refused", .int 1, .bl true, .bl true]))
      generalize upd (upd H1 t (.tup [.str "refused", .int 1, .bl true, .bl true])) u (.tup [.str "day", .str "float", .str "zoned", .str "fixed"]) = H3 at lU s3 l3 lR ⊢
      clear su l2 hu ht l1 s1
      have refu : (∀ k a b o, ¬ RdW (some 30) ws k a b o) → ∀ H', Same H3 H' → Q (.ref t) H' := fun no H' s' => k1 none (.inr ⟨no, rfl⟩) t H' (s3.trans s') (s' _ _ lR)
      refine ⟨u, _, rfl, .inr (SqT.of lU), rfl, rfl, _, rfl, ifQ (fun h1 => ⟨_, rfl, refu (bad1 fun hk => ?_) _ (fun _ _ q => q)⟩) (fun h1 => ?_)⟩
      · have e := (in_ks kd).mpr hk
        have h1 : (!inV (V.str kd) [V.str "day", V.str "float", V.str "zoned", V.str "fixed"]) = true := h1
        rw [e] at h1
        cases h1
      have hk : kd ∈ KS := (in_ks kd).mp (nf h1)
      refine ⟨_, rfl, _, ws.length, rfl, .inl ⟨_, SqL.of l3, by rw [List.length_map]⟩, _, rfl, rfl, _, rfl, ifQ (fun h2 => ⟨_, rfl, refu (bad2 fun e => ?_) _ (fun _ _ q => q)⟩) (fun h2 => ?_)⟩
      · first
          | rw [if_pos (V.str.inj hzo)] at e
          | rw [if_neg fun z => hzo (congrArg V.str z)] at e
        rw [e] at h2
        simp at h2
      have hl2 : (ws.length : Int) = if kd = "zoned" then 5 else 4 := by
        have e := of_decide_eq_true (nf h2)
        first
          | rw [if_pos (V.str.inj hzo)]
          | rw [if_neg fun z => hzo (congrArg V.str z)]
        exact V.int.inj e
      obtain ⟨x, tt, y, o, hw2, hzk⟩ := shape hne h0 hl2
      clear hw h0 bad1 bad2 h2 hl2
      subst hw2
      have lx := hzl x (by simp)
      have ly := hzl y (by simp)
      have un : ∀ k' a b o', RdW (some 30) ([kd, x, tt, y] ++ o.toList) k' a b o' → x = strI a ∧ tt = "to" ∧ y = strI b ∧ o = o' := fun k' a b o' q => by
        have e := q.sp
        simp only [List.cons_append, List.nil_append, List.cons.injEq] at e
        obtain ⟨_, e2, e3, e4, e5⟩ := e
        refine ⟨e2, e3, e4, ?_⟩
        cases o <;> cases o' <;> simp_all
      refine ⟨_, rfl, l, _, _, _, rfl, rfl, SqL.of l3, atI_nat (j := 2) rfl, rfl, _, rfl, ifQ (fun h3 => ⟨_, rfl, refu (fun k' a b o' q => ?_) _ (fun _ _ q => q)⟩) (fun h3 => ?_)⟩
      · obtain ⟨_, e, _⟩ := un k' a b o' q
        rw [e] at h3
        simp at h3
      have et : tt = "to" := V.str.inj (of_decide_eq_true (nf h3))
      subst et
      refine ⟨_, rfl, l, _, _, _, rfl, rfl, SqL.of l3, atI_nat (j := 1) rfl, x, rfl, lx, fun H4 s4 => ?_⟩
      have l4 := s4 _ _ l3
      refine ⟨_, rfl, l, _, _, _, rfl, rfl, SqL.of l4, atI_nat (j := 3) rfl, y, rfl, ly, fun H5 s5 => ?_⟩
      have l5 := s5 _ _ l4
      have s35 := s4.trans s5
      refine ⟨_, _, rfl, ?_⟩
      cases hx : numR (some 30) x with
      | none =>
        refine ⟨_, rfl, rfl, _, rfl, ifB rfl ⟨_, rfl, refu (fun k' a b o' q => ?_) _ s35⟩⟩
        have e := numR_str q.fa
        rw [← (un k' a b o' q).1, hx] at e
        cases e
      | some a =>
        refine ⟨_, rfl, rfl, _, rfl, ifN rfl ?_⟩
        cases hy : numR (some 30) y with
        | none =>
          refine ⟨_, rfl, rfl, _, rfl, ifB rfl ⟨_, rfl, refu (fun k' a b o' q => ?_) _ s35⟩⟩
          have e := numR_str q.fb
          rw [← (un k' a b o' q).2.2.1, hy] at e
          cases e
        | some b =>
          obtain ⟨exa, fa⟩ := numR_some hx
          obtain ⟨eyb, fb⟩ := numR_some hy
          refine ⟨_, rfl, rfl, _, rfl, ifN rfl ?_⟩
          refine ⟨_, rfl, _, rfl, _, _, rfl, rfl, _, rfl, ifC (fun h5 => ⟨_, rfl, refu (fun k' a' b' o' q => ?_) _ s35⟩) (fun h5 => ?_)⟩
          · obtain ⟨u1, _, u3, _⟩ := un k' a' b' o' q
            have := q.le
            rw [exa] at u1
            rw [eyb] at u3
            have e1 := strI_inj u1
            have e2 := strI_inj u3
            have h5' : b < a := h5
            omega
          have hab : a ≤ b := Int.not_lt.mp h5
          refine ⟨_, rfl, rfl, _, rfl, ifQ (fun h6 => ?_) (fun h6 => ?_)⟩
          · have hk6 : ¬ kd = "zoned" := by
              first
                | exact fun z => hzo (congrArg V.str z)
                | exact absurd (V.int.inj (of_decide_eq_true h6)) (by decide)
            have ho : o = none := by
              cases o with
              | none => rfl
              | some n => exact absurd (hzk.mp rfl) hk6
            subst ho
            refine ⟨_, rfl, _, rfl, l, _, _, _, rfl, rfl, SqL.of l5, i0, _, rfl, _, rfl, (by show 6 ≤ sizeLine; decide), fun p hp => ?_⟩
            exact k1 (some (z, kd, a, b, none)) (.inl ⟨kd, a, b, none, ⟨by rw [exa, eyb], hk, hzk, fa, fb, hab, fun n e => by cases e⟩, rfl⟩) p _ (s3.trans (s35.trans (same_upd hp))) upd_same
          · have hk6 : kd = "zoned" := by
              first
                | exact V.str.inj hzo
                | exact absurd h6 (by decide)
            obtain ⟨n, ho⟩ := Option.isSome_iff_exists.mp (hzk.mpr hk6)
            subst ho
            refine ⟨_, rfl, l, _, _, _, rfl, rfl, SqL.of l5, atI_nat (j := 4) rfl, n, rfl, by have := hzl n (by simp); omega, fun c H6 s6 hcn => ⟨c, rfl, ifQ (fun h7 => ?_) (fun h7 => ?_)⟩⟩
            · have l6 := s6 _ _ l5
              refine ⟨_, rfl, _, rfl, l, _, _, _, rfl, rfl, SqL.of l6, i0, _, rfl, _, rfl, _, rfl, l, _, _, _, rfl, rfl, SqL.of l6, atI_nat (j := 4) rfl, (by show 6 ≤ sizeLine; decide), fun p hp => ?_⟩
              exact k1 (some (z, kd, a, b, some n)) (.inl ⟨kd, a, b, some n, ⟨by rw [exa, eyb], hk, hzk, fa, fb, hab, fun m e => by cases e; exact hcn.mp h7⟩, rfl⟩) p _ (s3.trans (s35.trans (s6.trans (same_upd hp)))) upd_same
            · refine ⟨_, rfl, refu (fun k' a' b' o' q => ?_) _ (s35.trans s6)⟩
              have u4 := (un k' a' b' o' q).2.2.2
              have := hcn.mpr (q.nm n u4.symm)
              rw [this] at h7
              cases h7
end
end Wd

set_option maxHeartbeats 4000000
namespace Wd
open PySem PySem.Spec PyProof.Rows L2 Wt TL NumText
section
variable {X : Cx} {CX : CXT} {k : Nat} {C f : Addr} {fd : FuncData} {ps : List Str} {sp : Sp}
/-- x + n, x an instance of a class with a def for it, n a whole number -/
def rBinO (C : Addr) (sp : Sp) : R2 := fun x y H Q => ∃ a dx fs n, x = .ref a ∧ y = .int n ∧ H a = some (.ins C dx fs) ∧ sp [.ref a, .int n] H Q (fun _ _ _ => False)
theorem op_binO {op : Operator} {fo ro : Option Value} (G : FnOk X.prog X.w X.K X.mg X.base CX k f fd ps sp) (hr : Room k X.A) (hc : PySem.W.selfFirst X.K C = true)
    (hs : PySem.W.findIn X.K (.ref C) (PySem.dunder op.info.2) = some (some (.ref f))) (hf : PySem.W.isFn X.K (.ref f) = true) (hrr : PySem.W.findIn X.K (.ref C) (dunderR op.info.2) = some none)
    (h1 : PySem.W.findIn X.K (.type "int") (PySem.dunder op.info.2) = some fo) (h2 : PySem.W.findIn X.K (.type "int") (dunderR op.info.2) = some ro) (hsub : PySem.W.subIn X.K (.type "int") (.ref C) = some false)
    (hb : Binds X.K fd ps []) (hx : Passes CX X (fun _ _ _ => False)) : OpR X (binaryOp op) (rBinO C sp) := by
  intro pins s σ H x y v u Q I rx ry h
  obtain ⟨a, dx, fs, n, rfl, rfl, ha, q⟩ := h
  obtain rfl : v = Value.ref a := rx
  obtain ⟨t, rfl⟩ := ry
  obtain ⟨mA, J, _⟩ := ins_get I.hok ha
  obtain ⟨od, J, _⟩ := J.look
  obtain ⟨m, hF⟩ := I.fr
  refine PySem.W.ksp_binT hF I.ok.mod.kin J (T := "int") rfl hc hs hf hrr (Or.inl rfl) h1 h2 hsub ?_
  refine wpAny_mono (run_fn (us := [.ref a, .int n t]) (vs := [.ref a, .int n]) G hr hb .nil hx I (.cons rfl (.cons ⟨t, rfl⟩ .nil)) q) (fun w s' z => ?_) fun _ _ x => x
  obtain ⟨z', H', I', rz, qz⟩ := z
  exact SlX.cmpback rz ⟨z', H', I', rz, qz⟩
/-- x == y, x an instance of a class with a def for it, y another one of the class, or a text -/
def rEqO (C : Addr) (sp : Sp) : R2 := fun x y H Q => ∃ a dx fs, x = .ref a ∧ H a = some (.ins C dx fs) ∧ ((∃ b dy gs, y = .ref b ∧ H b = some (.ins C dy gs)) ∨ ∃ z : Str, y = .str z) ∧ sp [.ref a, y] H Q (fun _ _ _ => False)
theorem op_eqO (G : FnOk X.prog X.w X.K X.mg X.base CX k f fd ps sp) (hr : Room (k + 1) X.A)
    (he : PySem.W.findIn X.K (.ref C) "__eq__" = some (some (.ref f))) (hf : PySem.W.isFn X.K (.ref f) = true) (hss : PySem.W.subIn X.K (.type "str") (.ref C) = some false)
    (hb : Binds X.K fd ps []) (hx : Passes CX X (fun _ _ _ => False)) : OpR X (compareOp .Eq) (rEqO C sp) := by
  intro pins s σ H x y v u Q I rx ry h
  obtain ⟨a, dx, fs, rfl, ha, hy, q⟩ := h
  obtain rfl : v = Value.ref a := rx
  obtain ⟨mA, J, _⟩ := ins_get I.hok ha
  obtain ⟨od, J, _⟩ := J.look
  obtain ⟨m, hF⟩ := I.fr
  have fin : wpAny (model X.prog X.w) X.A (call (.ref f) [.ref a, u]) (PySem.W.CmpBack (EP X pins σ Q)) X.xe s := by
    refine wpAny_mono (run_fn (us := [.ref a, u]) (vs := [.ref a, y]) G (hr.mono (by omega)) hb .nil hx I (.cons rfl (.cons ry .nil)) q) (fun w s' z => ?_) fun _ _ x => x
    obtain ⟨z', H', I', rz, qz⟩ := z
    exact SlX.cmpback rz ⟨z', H', I', rz, qz⟩
  show wpAny (model X.prog X.w) X.A (richCompare .Eq (.ref a) u) (EP X pins σ Q) X.xe s
  rcases hy with ⟨b, dy, gs, rfl, hb'⟩ | ⟨z, rfl⟩
  · obtain rfl : u = Value.ref b := ry
    obtain ⟨mB, J', _⟩ := ins_get I.hok hb'
    obtain ⟨od', J', _⟩ := J'.look
    exact PySem.W.cmp_K (op := .Eq) (tb := .ref C) hr.units0 hF I.ok.mod.kin J J'.type (by simp [PySem.W.notFirst]) he hf fin
  · obtain ⟨t, rfl⟩ := ry
    exact PySem.W.cmp_K (op := .Eq) (tb := .type "str") hr.units0 hF I.ok.mod.kin J (PySem.W.Looks.of_pure rfl) (by unfold PySem.W.notFirst; rw [hss]; rfl) he hf fin
end
/-- two tuples of the same flat items -/
def rNeT (K : PySem.W.Frag) : R2 := fun x y H Q => ∃ p q xs, x = .ref p ∧ y = .ref q ∧ SqT K H p xs ∧ SqT K H q xs ∧ xs.all flatV = true ∧ Q (.bl false) H
theorem eqV_self {x : V} (f : flatV x = true) : eqV x x = true := by
  cases x <;> first | exact absurd f Bool.false_ne_true | simp [eqV]
theorem op_neT {X : Cx} (hu : X.A.units < cLine) : OpR X (compareOp .NotEq) (rNeT X.K) := by
  intro pins s σ H x y v u Q I rx ry h
  obtain ⟨p, q, xs, rfl, rfl, hp, hq, fl, k⟩ := h
  obtain rfl : v = Value.ref p := rx
  obtain rfl : u = Value.ref q := ry
  obtain ⟨us, r1, p1, _⟩ := I.tuple hp
  obtain ⟨ws, r2, p2, _⟩ := I.tuple hq
  have l1 := r1.length
  have l2 := r2.length
  refine SeqAt.RcNeAt.tuples (e := fun _ => true) p1 p2 hu (fun j h1 h2 => ?_) X.prog X.w X.xe _ ?_
  · have h1' : j < us.length := by simpa using h1
    have h2' : j < ws.length := by simpa using h2
    obtain ⟨a, e1, q1⟩ := r1.get (i := j) (x := xs[j]'(by omega)) (List.getElem?_eq_getElem _)
    obtain ⟨b, e2, q2⟩ := r2.get (i := j) (x := xs[j]'(by omega)) (List.getElem?_eq_getElem _)
    rw [List.getElem?_eq_getElem h1'] at e1
    rw [List.getElem?_eq_getElem h2'] at e2
    have f := List.all_eq_true.mp fl (xs[j]'(by omega)) (List.getElem_mem _)
    have := eqAt_V (A := X.A.in1) (s := s) q1 q2 f f
    rw [eqV_self f] at this
    cases e1
    cases e2
    simpa using this
  · have e : (!((List.range (min us.toArray.size ws.toArray.size)).all (fun _ => true) && us.toArray.size == ws.toArray.size)) = false := by
      simp only [List.size_toArray]
      rw [← l1, ← l2]
      simp
    rw [e]
    exact ⟨.bl false, H, I, rfl, k⟩
/-- what the operators ask of the class of entries -/
structure Ox (K : PySem.W.Frag) : Prop where
  ne : PySem.W.findIn K (.ref (He.ga K "Entry")) "__ne__" = some (some (.builtin "object.__ne__"))
  sf : PySem.W.selfFirst K (He.ga K "Entry") = true
  ra : PySem.W.findIn K (.ref (He.ga K "Entry")) "__radd__" = some none
  rs : PySem.W.findIn K (.ref (He.ga K "Entry")) "__rsub__" = some none
  si : PySem.W.subIn K (.type "int") (.ref (He.ga K "Entry")) = some false
  ss : PySem.W.subIn K (.type "str") (.ref (He.ga K "Entry")) = some false
  ks : PySem.W.kitOne K (.type "str") (.ref (He.ga K "Entry")) = some false
structure Me (P : Program) (w : World) (K : PySem.W.Frag) (mg : Str → Option Value) (base : Heap) (n : Nat) (m : Str) (ps : List Str) (sp : Sp) : Prop where
  ok : ∃ f fd, FnOk P w K mg base CX0 n f fd ps sp ∧ PySem.W.findIn K (.ref (He.ga K "Entry")) m = some (some (.ref f)) ∧ PySem.W.isFn K (.ref f) = true ∧ Binds K fd ps []
theorem stepOf_neg (k : Str) (m : Int) : stepOf k (-m) = - stepOf k m := by
  unfold stepOf
  split
  · rfl
  · omega
theorem stepOf_zero {k : Str} {m : Int} : stepOf k m = 0 ↔ m = 0 := by
  unfold stepOf
  split <;> omega
theorem int_add (K : PySem.W.Frag) : (PySem.W.findIn K (.type "int") "__add__").isSome = true := by
  show (fastLookup "int" "__add__").isSome = true
  decide +kernel
theorem int_radd (K : PySem.W.Frag) : (PySem.W.findIn K (.type "int") "__radd__").isSome = true := by
  show (fastLookup "int" "__radd__").isSome = true
  decide +kernel
theorem int_sub (K : PySem.W.Frag) : (PySem.W.findIn K (.type "int") "__sub__").isSome = true := by
  show (fastLookup "int" "__sub__").isSome = true
  decide +kernel
theorem int_rsub (K : PySem.W.Frag) : (PySem.W.findIn K (.type "int") "__rsub__").isSome = true := by
  show (fastLookup "int" "__rsub__").isSome = true
  decide +kernel
theorem es_to {C y dy : Addr} {H : Hp} {k : Str} {a b g g' : Int} {o : Option Str} (e : g = g') (h : H y = some (.ins C dy (eFs (mkT k (a + g) (b + g) o) k (a + g) (b + g) o))) : H y = some (.ins C dy (eFs (mkT k (a + g') (b + g') o) k (a + g') (b + g') o)) := e ▸ h
theorem es_to2 {C y dy : Addr} {H : Hp} {k : Str} {a b g g' : Int} {o : Option Str} (e : g = g') (h : H y = some (.ins C dy (eFs (mkT k (a + -g) (b + -g) o) k (a + -g) (b + -g) o))) : H y = some (.ins C dy (eFs (mkT k (a + -g') (b + -g') o) k (a + -g') (b + -g') o)) := e ▸ h
def spLR (K : PySem.W.Frag) : Sp := fun vs H Q _ => ∃ (x p : Addr) (k : Str) (a b : Int) (o : Option Str) (m : Int), vs = [.ref x, .ref p, .int m] ∧ EntA (He.ga K "Entry") x (mkT k a b o) k a b o H ∧ Val k a b o ∧
  H p = some (.tup (dueV (some (mkT k a b o, k, a, b, o)))) ∧ a.natAbs < 10 ^ 30 ∧ b.natAbs < 10 ^ 30 ∧ m.natAbs < 10 ^ 30 ∧ ∀ H', Same H H' → Q (.bl true) H'
section
variable {P : Program} {w : World} {K : PySem.W.Frag} {mg : Str → Option Value} {base : Heap} {f : Addr} {fd : FuncData}
structure DLR (P : Program) (w : World) (K : PySem.W.Frag) (mg : Str → Option Value) (base : Heap) : Prop where
  law_entry_text : Df P w K mg base CX0 1 "_law_entry_text" ["_law_entry"] (spTxt K)
  add : Me P w K mg base 8 "__add__" ["self", "many"] (sp_add (He.ga K "Entry"))
  sub : Me P w K mg base 8 "__sub__" ["self", "many"] (sp_sub (He.ga K "Entry"))
  eq : Me P w K mg base 1 "__eq__" ["self", "other"] (spEq (He.ga K "Entry") K)
  ox : Ox K
theorem scLR : FnScope ["_law_entry", "_law_due", "_law_many", "_law_text", "_law_kind", "_law_first", "_law_last", "_law_zone", "_law_whole_here", "_law_gap", "_law_later", "_law_earlier"] ["_law_entry", "_law_due", "_law_many"] (defScope (top 33)) := ⟨rfl, rfl, rfl, by decide +kernel, rfl, by decide +kernel, by decide +kernel⟩
theorem ok_LR (F : FnG K "_law_later_right" 33 f fd) (T : Tx K mg) (D : DLR P w K mg base) : FnOk P w K mg base CX0 10 f fd ["_law_entry", "_law_due", "_law_many"] (spLR K) := by
  refine F.ok scLR (fun vs H Q E h => ?_) (fun cdv A outer s H vs Q E hr h => ?_)
  · obtain ⟨x, p, k, a, b, o, m, rfl, _⟩ := h
    rfl
  · obtain ⟨x, p, k, a, b, o, m, rfl, ⟨dx, hx⟩, v, hp, la, lb, lm, good⟩ := h
    obtain ⟨fA, fdA, GA, ia, fa, bA⟩ := D.add.ok
    obtain ⟨fS, fdS, GS, is, fs, bS⟩ := D.sub.ok
    obtain ⟨fE, fdE, GE, ie, fe, bE⟩ := D.eq.ok
    obtain ⟨qa1, la1⟩ := Option.isSome_iff_exists.mp (int_add K)
    obtain ⟨qa2, la2⟩ := Option.isSome_iff_exists.mp (int_radd K)
    obtain ⟨qs1, ls1⟩ := Option.isSome_iff_exists.mp (int_sub K)
    obtain ⟨qs2, ls2⟩ := Option.isSome_iff_exists.mp (int_rsub K)
    refine ⟨_, PSs.nox (pss_cons (ps_asg (pv 1) (pg_tup rfl (pgs_cons (pg_name (i := 3) scLR.nd rfl (Or.inl rfl)) (pgs_cons (pg_name (i := 4) scLR.nd rfl (Or.inl rfl)) (pgs_cons (pg_name (i := 5) scLR.nd rfl (Or.inl rfl)) (pgs_cons (pg_name (i := 6) scLR.nd rfl (Or.inl rfl)) (pgs_cons (pg_name (i := 7) scLR.nd rfl (Or.inl rfl)) (pgs_cons (pg_name (i := 8) scLR.nd rfl (Or.inl rfl)) pgs_nil))))))))
        (pss_cons (ps_set (i := 9) scLR.nd rfl (Or.inl rfl) (pe_ifExp (pt_cmpR op_eq (pv 4) pe_str (nomark _)) (pv 2) (pe_op op_mul pe_int (pv 2))))
        (pss_cons (ps_par (i := 10) (j := 11) (by rfl) scLR.nd rfl rfl (by decide) rfl rfl (pa_cons (pe_op (op_binO GA (hr.mono (by decide)) D.ox.sf ia fa D.ox.ra la1 la2 D.ox.si bA pass0) (pv 0) (pv 2)) (pa_cons (pe_op (op_binO GS (hr.mono (by decide)) D.ox.sf is fs D.ox.rs ls1 ls2 D.ox.si bS pass0) (pv 0) (pv 2)) pa_nil)) (by rfl))
        (pss_cons (ps_if (PW.pt (pw_or (pt_not (pt_val (pe_callB call_isi (by rfl) T.isinstance (by decide +kernel) (pa_cons (pv 10) (pa_cons (pe_glob (v := .ref (He.ga K "Entry")) rfl T.Entry rfl) pa_nil))))) (pw_or1 (pt_cmpR op_ne (pe_fld (pv 10) rfl) (pe_cd D.law_entry_text (hr.mono (by decide)) pass0 (pa_cons (pe_tup (pa_cons (pv 4) (pa_cons (pe_op op_add (pv 5) (pv 9)) (pa_cons (pe_op op_add (pv 6) (pv 9)) (pa_cons (pv 7) pa_nil))))) pa_nil)) (nomark _))))) (pss_one (ps_ret pe_bl)) pss_nil)
        (pss_cons (ps_if (pt_cmpR (op_neT hr.units0) (pe_tup (pa_cons (pe_fld (pv 10) rfl) (pa_cons (pe_fld (pv 10) rfl) (pa_cons (pe_fld (pv 10) rfl) (pa_cons (pe_fld (pv 10) rfl) pa_nil))))) (pe_tup (pa_cons (pv 4) (pa_cons (pe_op op_add (pv 5) (pv 9)) (pa_cons (pe_op op_add (pv 6) (pv 9)) (pa_cons (pv 7) pa_nil))))) (nomark _)) (pss_one (ps_ret pe_bl)) pss_nil)
        (pss_cons (ps_if (PW.pt (pw_or (pt_cmpR op_ne (pe_fld (pv 11) rfl) (pe_cd D.law_entry_text (hr.mono (by decide)) pass0 (pa_cons (pe_tup (pa_cons (pv 4) (pa_cons (pe_op op_sub (pv 5) (pv 9)) (pa_cons (pe_op op_sub (pv 6) (pv 9)) (pa_cons (pv 7) pa_nil))))) pa_nil)) (nomark _)) (pw_or1 (pt_cmpR op_ne (pe_fld (pv 0) rfl) (pv 3) (nomark _))))) (pss_one (ps_ret pe_bl)) pss_nil)
        (pss_one (ps_ret (pe_and (pe_cmpR (op_eqO GE (hr.mono (by decide)) ie fe D.ox.ss bE pass0) (pe_op (op_binO GS (hr.mono (by decide)) D.ox.sf is fs D.ox.rs ls1 ls2 D.ox.si bS pass0) (pv 10) (pv 2)) (pv 0) (nomark _)) (pe_and (pe_cmpR (op_eqO GE (hr.mono (by decide)) ie fe D.ox.ss bE pass0) (pe_op (op_binO GA (hr.mono (by decide)) D.ox.sf ia fa D.ox.ra la1 la2 D.ox.si bA pass0) (pv 11) (pv 2)) (pv 0) (nomark _)) (pe_one (pe_cmpR op_eq (pe_cmpR (op_eqO GE (hr.mono (by decide)) ie fe D.ox.ss bE pass0) (pv 10) (pv 0) (nomark _)) (pe_cmpR op_eq (pv 2) pe_int (nomark _)) (nomark _))))))))))))), ?_⟩
    have st0 : ∀ n, n.natAbs < 10 ^ 30 → (stepOf k n).natAbs < 10 ^ 34 := fun n hn => by
      have e1 : (10 : Nat) ^ 30 = 1000000000000000000000000000000 := by decide +kernel
      have e2 : (10 : Nat) ^ 34 = 10000000000000000000000000000000000 := by decide +kernel
      rw [e1] at hn
      rw [e2]
      unfold stepOf
      split <;> omega
    have sg := st0 m lm
    have en := stepOf_neg k m
    have ez := stepOf_zero (k := k) (m := m)
    have sm_of : ∀ n : Int, n.natAbs < 10 ^ 36 → small n := fun n hn => Nat.lt_trans hn (by decide +kernel)
    have e30 : (10 : Nat) ^ 30 = 1000000000000000000000000000000 := by decide +kernel
    have e34 : (10 : Nat) ^ 34 = 10000000000000000000000000000000000 := by decide +kernel
    have e36 : (10 : Nat) ^ 36 = 1000000000000000000000000000000000000 := by decide +kernel
    rw [e30] at la lb lm
    rw [e34] at sg
    rw [e36] at sm_of
    refine ⟨_, rfl, p, _, rfl, SqT.of hp, rfl, _, _, rfl, _, _, rfl, _, _, rfl, _, _, rfl, _, _, rfl, _, _, rfl, rfl, ?_⟩
    have lk5 := ks_len v.kin
    have nmL : ∀ n, o = some n → n.length ≤ 100 := fun n hn => by have := name_len (v.nm n hn); omega
    have flat : ∀ i j : Int, ([V.str k, V.int i, V.int j, oS o] : List V).all flatV = true := fun i j => by cases o <;> rfl
    have fin : ∀ (c : Bool), c = true → ∀ H', Same H H' → Q (.bl c) H' := fun c hc H' s' => by rw [hc]; exact good H' s'
    refine ⟨_, rfl, rfl, _, rfl, ifC (fun h => ?_) (fun h => ?_)⟩
    all_goals first
      | (refine ⟨_, rfl, ?_⟩
         have es : m = stepOf k m := (if_pos (V.str.inj h)).symm)
      | (refine ⟨_, rfl, _, _, rfl, rfl, .inl ⟨by decide, by decide⟩, ?_⟩
         have es : 1440 * m = stepOf k m := (if_neg fun e => h (congrArg V.str e)).symm)
    · refine ⟨_, rfl, _, rfl, x, _, _, m, rfl, rfl, hx, x, m, rfl, x, _, k, a, b, o, m, rfl, ⟨_, hx⟩, v, sm_of _ (by omega), sm_of _ (by omega), fun y H1 s1 e1 => ?_⟩
      refine ⟨_, rfl, _, rfl, x, _, _, m, rfl, rfl, s1 _ _ hx, x, m, rfl, x, _, k, a, b, o, -m, rfl, ⟨_, s1 _ _ hx⟩, v, sm_of _ (by rw [en]; omega), sm_of _ (by rw [en]; omega), fun y2 H2 s2 e2 => ?_⟩
      refine ⟨_, _, rfl, ?_⟩
      rw [← es] at e1
      rw [en, ← es] at e2
      obtain ⟨dy, hy⟩ := e1.same s2
      obtain ⟨dz, hz⟩ := e2
      have hx2 := s2 _ _ (s1 _ _ hx)
      have s12 := s1.trans s2
      refine ⟨_, rfl, .ref y, .ref (He.ga K "Entry"), .ref (He.ga K "Entry"), .ref (He.ga K "Entry"), true, rfl, .own _, .base (.ins hy T.cl T.cc T.cg T.ct T.ob), T.kt, true, rfl, ifN rfl ?_⟩
      refine ⟨_, rfl, y, _, dy, _, _, rfl, hy, T.cl, T.n1, lk_text, _, rfl, _, rfl, _, rfl, _, _, rfl, rfl, _, rfl, _, rfl, _, _, rfl, rfl, _, rfl, (by show 4 ≤ sizeLine; decide), fun t ht => ?_⟩
      refine ⟨t, k, _, _, o, rfl, SqT.of upd_same, by omega, sm_of _ (by omega), sm_of _ (by omega), nmL, rfl, _, rfl, ifN (by simp) ?_⟩
      have q3 := same_upd (o := (.tup [.str k, .int (a + m), .int (b + m), oS o])) ht
      have s3 := s12.trans q3
      have hx3 := q3 _ _ hx2
      have hy3 := q3 _ _ hy
      have hz3 := q3 _ _ hz
      generalize upd H2 t (.tup [.str k, .int (a + m), .int (b + m), oS o]) = H3 at s3 hx3 hy3 hz3 ⊢
      clear q3 ht
      refine ⟨_, rfl, y, _, dy, _, _, rfl, hy3, T.cl, T.n2, lk_kind, _, rfl, y, _, dy, _, _, rfl, hy3, T.cl, T.n3, lk_first, _, rfl, y, _, dy, _, _, rfl, hy3, T.cl, T.n4, lk_last, _, rfl, y, _, dy, _, _, rfl, hy3, T.cl, T.n5, lk_zone, (by show 4 ≤ sizeLine; decide), fun t1 ht1 => ?_⟩
      refine ⟨_, rfl, _, rfl, _, rfl, _, _, rfl, rfl, _, rfl, _, rfl, _, _, rfl, rfl, _, rfl, (by show 4 ≤ sizeLine; decide), fun t2 ht2 => ?_⟩
      refine ⟨t1, t2, _, rfl, rfl, SqT.of (same_upd ht2 _ _ upd_same), SqT.of upd_same, flat _ _, _, rfl, ifN rfl ?_⟩
      have q5 := (same_upd (o := (.tup [.str k, .int (a + m), .int (b + m), oS o])) ht1).trans (same_upd (o := (.tup [.str k, .int (a + m), .int (b + m), oS o])) ht2)
      have s5 := s3.trans q5
      have hx5 := q5 _ _ hx3
      have hy5 := q5 _ _ hy3
      have hz5 := q5 _ _ hz3
      generalize upd (upd H3 t1 (.tup [.str k, .int (a + m), .int (b + m), oS o])) t2 (.tup [.str k, .int (a + m), .int (b + m), oS o]) = H5 at s5 hx5 hy5 hz5 ⊢
      clear q5 ht2
      refine ⟨_, rfl, y2, _, dz, _, _, rfl, hz5, T.cl, T.n1, lk_text, _, rfl, _, rfl, _, rfl, _, _, rfl, rfl, _, rfl, _, rfl, _, _, rfl, rfl, _, rfl, (by show 4 ≤ sizeLine; decide), fun t3 ht3 => ?_⟩
      refine ⟨t3, k, _, _, o, rfl, SqT.of upd_same, by omega, sm_of _ (by omega), sm_of _ (by omega), nmL, rfl, _, rfl, ifN (by rw [Int.sub_eq_add_neg, Int.sub_eq_add_neg]; simp) ?_⟩
      have q6 := same_upd (o := (.tup [.str k, .int (a - m), .int (b - m), oS o])) ht3
      have s6 := s5.trans q6
      have hx6 := q6 _ _ hx5
      have hy6 := q6 _ _ hy5
      have hz6 := q6 _ _ hz5
      generalize upd H5 t3 (.tup [.str k, .int (a - m), .int (b - m), oS o]) = H6 at s6 hx6 hy6 hz6 ⊢
      clear q6
      refine ⟨_, rfl, x, _, dx, _, _, rfl, hx6, T.cl, T.n1, lk_text, _, rfl, rfl, _, rfl, ifN (by simp) ?_⟩
      have f1 : a + stepOf k m + stepOf k (-m) = a := by rw [en]; omega
      have f2 : b + stepOf k m + stepOf k (-m) = b := by rw [en]; omega
      have f3 : a + -stepOf k m + stepOf k m = a := by omega
      have f4 : b + -stepOf k m + stepOf k m = b := by omega
      have hy6 := es_to es hy6
      have hz6 := es_to2 es hz6
      refine ⟨_, rfl, _, rfl, y, _, _, m, rfl, rfl, hy6, y, m, rfl, y, _, k, _, _, o, -m, rfl, ⟨_, hy6⟩, v.shift _, sm_of _ (by rw [f1]; omega), sm_of _ (by rw [f2]; omega), fun y7 H7 q7 e7 => ?_⟩
      rw [f1, f2] at e7
      obtain ⟨d7, h7⟩ := e7
      have hx7 := q7 _ _ hx6
      have hy7 := q7 _ _ hy6
      have hz7 := q7 _ _ hz6
      refine ⟨_, rfl, y7, d7, _, rfl, h7, .inl ⟨x, dx, _, rfl, hx7⟩, y7, _, _, _, _, _, _, rfl, ⟨_, h7⟩, .inl ⟨x, _, _, _, _, _, rfl, ⟨_, hx7⟩, _, rfl, ifB (decide_eq_true rfl) ?_⟩⟩
      refine ⟨_, rfl, _, rfl, y2, _, _, m, rfl, rfl, hz7, y2, m, rfl, y2, _, k, _, _, o, m, rfl, ⟨_, hz7⟩, v.shift _, sm_of _ (by rw [f3]; omega), sm_of _ (by rw [f4]; omega), fun y8 H8 q8 e8 => ?_⟩
      rw [f3, f4] at e8
      obtain ⟨d8, h8⟩ := e8
      have hx8 := q8 _ _ hx7
      have hy8 := q8 _ _ hy7
      refine ⟨_, rfl, y8, d8, _, rfl, h8, .inl ⟨x, dx, _, rfl, hx8⟩, y8, _, _, _, _, _, _, rfl, ⟨_, h8⟩, .inl ⟨x, _, _, _, _, _, rfl, ⟨_, hx8⟩, _, rfl, ifB (decide_eq_true rfl) ?_⟩⟩
      refine ⟨_, rfl, _, rfl, y, _, _, rfl, hy8, .inl ⟨x, dx, _, rfl, hx8⟩, y, _, _, _, _, _, _, rfl, ⟨_, hy8⟩, .inl ⟨x, _, _, _, _, _, rfl, ⟨_, hx8⟩, _, rfl, rfl, rfl, fin _ ?_ _ (s6.trans (q7.trans q8))⟩⟩
      have key : (mkT k (a + stepOf k m) (b + stepOf k m) o = mkT k a b o) ↔ (V.int m = V.int 0) := by
        constructor
        · intro e
          have := (mk_inj v.kin v.nm v.kin v.nm e).2.1
          have z : stepOf k m = 0 := by omega
          rw [ez.mp z]
        · intro e
          have z := ez.mpr (V.int.inj e)
          rw [z, Int.add_zero, Int.add_zero]
      exact decide_eq_true (congrArg V.bl (decide_eq_decide.mpr key))
    · refine ⟨_, rfl, _, rfl, x, _, _, m, rfl, rfl, hx, x, m, rfl, x, _, k, a, b, o, m, rfl, ⟨_, hx⟩, v, sm_of _ (by omega), sm_of _ (by omega), fun y H1 s1 e1 => ?_⟩
      refine ⟨_, rfl, _, rfl, x, _, _, m, rfl, rfl, s1 _ _ hx, x, m, rfl, x, _, k, a, b, o, -m, rfl, ⟨_, s1 _ _ hx⟩, v, sm_of _ (by rw [en]; omega), sm_of _ (by rw [en]; omega), fun y2 H2 s2 e2 => ?_⟩
      refine ⟨_, _, rfl, ?_⟩
      rw [← es] at e1
      rw [en, ← es] at e2
      obtain ⟨dy, hy⟩ := e1.same s2
      obtain ⟨dz, hz⟩ := e2
      have hx2 := s2 _ _ (s1 _ _ hx)
      have s12 := s1.trans s2
      refine ⟨_, rfl, .ref y, .ref (He.ga K "Entry"), .ref (He.ga K "Entry"), .ref (He.ga K "Entry"), true, rfl, .own _, .base (.ins hy T.cl T.cc T.cg T.ct T.ob), T.kt, true, rfl, ifN rfl ?_⟩
      refine ⟨_, rfl, y, _, dy, _, _, rfl, hy, T.cl, T.n1, lk_text, _, rfl, _, rfl, _, rfl, _, _, rfl, rfl, _, rfl, _, rfl, _, _, rfl, rfl, _, rfl, (by show 4 ≤ sizeLine; decide), fun t ht => ?_⟩
      refine ⟨t, k, _, _, o, rfl, SqT.of upd_same, by omega, sm_of _ (by omega), sm_of _ (by omega), nmL, rfl, _, rfl, ifN (by simp) ?_⟩
      have q3 := same_upd (o := (.tup [.str k, .int (a + 1440 * m), .int (b + 1440 * m), oS o])) ht
      have s3 := s12.trans q3
      have hx3 := q3 _ _ hx2
      have hy3 := q3 _ _ hy
      have hz3 := q3 _ _ hz
      generalize upd H2 t (.tup [.str k, .int (a + 1440 * m), .int (b + 1440 * m), oS o]) = H3 at s3 hx3 hy3 hz3 ⊢
      clear q3 ht
      refine ⟨_, rfl, y, _, dy, _, _, rfl, hy3, T.cl, T.n2, lk_kind, _, rfl, y, _, dy, _, _, rfl, hy3, T.cl, T.n3, lk_first, _, rfl, y, _, dy, _, _, rfl, hy3, T.cl, T.n4, lk_last, _, rfl, y, _, dy, _, _, rfl, hy3, T.cl, T.n5, lk_zone, (by show 4 ≤ sizeLine; decide), fun t1 ht1 => ?_⟩
      refine ⟨_, rfl, _, rfl, _, rfl, _, _, rfl, rfl, _, rfl, _, rfl, _, _, rfl, rfl, _, rfl, (by show 4 ≤ sizeLine; decide), fun t2 ht2 => ?_⟩
      refine ⟨t1, t2, _, rfl, rfl, SqT.of (same_upd ht2 _ _ upd_same), SqT.of upd_same, flat _ _, _, rfl, ifN rfl ?_⟩
      have q5 := (same_upd (o := (.tup [.str k, .int (a + 1440 * m), .int (b + 1440 * m), oS o])) ht1).trans (same_upd (o := (.tup [.str k, .int (a + 1440 * m), .int (b + 1440 * m), oS o])) ht2)
      have s5 := s3.trans q5
      have hx5 := q5 _ _ hx3
      have hy5 := q5 _ _ hy3
      have hz5 := q5 _ _ hz3
      generalize upd (upd H3 t1 (.tup [.str k, .int (a + 1440 * m), .int (b + 1440 * m), oS o])) t2 (.tup [.str k, .int (a + 1440 * m), .int (b + 1440 * m), oS o]) = H5 at s5 hx5 hy5 hz5 ⊢
      clear q5 ht2
      refine ⟨_, rfl, y2, _, dz, _, _, rfl, hz5, T.cl, T.n1, lk_text, _, rfl, _, rfl, _, rfl, _, _, rfl, rfl, _, rfl, _, rfl, _, _, rfl, rfl, _, rfl, (by show 4 ≤ sizeLine; decide), fun t3 ht3 => ?_⟩
      refine ⟨t3, k, _, _, o, rfl, SqT.of upd_same, by omega, sm_of _ (by omega), sm_of _ (by omega), nmL, rfl, _, rfl, ifN (by rw [Int.sub_eq_add_neg, Int.sub_eq_add_neg]; simp) ?_⟩
      have q6 := same_upd (o := (.tup [.str k, .int (a - 1440 * m), .int (b - 1440 * m), oS o])) ht3
      have s6 := s5.trans q6
      have hx6 := q6 _ _ hx5
      have hy6 := q6 _ _ hy5
      have hz6 := q6 _ _ hz5
      generalize upd H5 t3 (.tup [.str k, .int (a - 1440 * m), .int (b - 1440 * m), oS o]) = H6 at s6 hx6 hy6 hz6 ⊢
      clear q6
      refine ⟨_, rfl, x, _, dx, _, _, rfl, hx6, T.cl, T.n1, lk_text, _, rfl, rfl, _, rfl, ifN (by simp) ?_⟩
      have f1 : a + stepOf k m + stepOf k (-m) = a := by rw [en]; omega
      have f2 : b + stepOf k m + stepOf k (-m) = b := by rw [en]; omega
      have f3 : a + -stepOf k m + stepOf k m = a := by omega
      have f4 : b + -stepOf k m + stepOf k m = b := by omega
      have hy6 := es_to es hy6
      have hz6 := es_to2 es hz6
      refine ⟨_, rfl, _, rfl, y, _, _, m, rfl, rfl, hy6, y, m, rfl, y, _, k, _, _, o, -m, rfl, ⟨_, hy6⟩, v.shift _, sm_of _ (by rw [f1]; omega), sm_of _ (by rw [f2]; omega), fun y7 H7 q7 e7 => ?_⟩
      rw [f1, f2] at e7
      obtain ⟨d7, h7⟩ := e7
      have hx7 := q7 _ _ hx6
      have hy7 := q7 _ _ hy6
      have hz7 := q7 _ _ hz6
      refine ⟨_, rfl, y7, d7, _, rfl, h7, .inl ⟨x, dx, _, rfl, hx7⟩, y7, _, _, _, _, _, _, rfl, ⟨_, h7⟩, .inl ⟨x, _, _, _, _, _, rfl, ⟨_, hx7⟩, _, rfl, ifB (decide_eq_true rfl) ?_⟩⟩
      refine ⟨_, rfl, _, rfl, y2, _, _, m, rfl, rfl, hz7, y2, m, rfl, y2, _, k, _, _, o, m, rfl, ⟨_, hz7⟩, v.shift _, sm_of _ (by rw [f3]; omega), sm_of _ (by rw [f4]; omega), fun y8 H8 q8 e8 => ?_⟩
      rw [f3, f4] at e8
      obtain ⟨d8, h8⟩ := e8
      have hx8 := q8 _ _ hx7
      have hy8 := q8 _ _ hy7
      refine ⟨_, rfl, y8, d8, _, rfl, h8, .inl ⟨x, dx, _, rfl, hx8⟩, y8, _, _, _, _, _, _, rfl, ⟨_, h8⟩, .inl ⟨x, _, _, _, _, _, rfl, ⟨_, hx8⟩, _, rfl, ifB (decide_eq_true rfl) ?_⟩⟩
      refine ⟨_, rfl, _, rfl, y, _, _, rfl, hy8, .inl ⟨x, dx, _, rfl, hx8⟩, y, _, _, _, _, _, _, rfl, ⟨_, hy8⟩, .inl ⟨x, _, _, _, _, _, rfl, ⟨_, hx8⟩, _, rfl, rfl, rfl, fin _ ?_ _ (s6.trans (q7.trans q8))⟩⟩
      have key : (mkT k (a + stepOf k m) (b + stepOf k m) o = mkT k a b o) ↔ (V.int m = V.int 0) := by
        constructor
        · intro e
          have := (mk_inj v.kin v.nm v.kin v.nm e).2.1
          have z : stepOf k m = 0 := by omega
          rw [ez.mp z]
        · intro e
          have z := ez.mpr (V.int.inj e)
          rw [z, Int.add_zero, Int.add_zero]
      exact decide_eq_true (congrArg V.bl (decide_eq_decide.mpr key))
end
end Wd

set_option maxHeartbeats 4000000
namespace Wd
open PySem PySem.Spec PyProof.Rows L2 Wt TL NumText
theorem numL_big : ∀ (k n : Nat), (numL n).length ≤ k → n < 10 ^ k
  | 0, n, h => absurd (List.length_eq_zero_iff.mp (Nat.le_zero.mp h)) (numL_ne n)
  | k + 1, n, h => by
    by_cases h10 : n < 10
    · exact Nat.lt_of_lt_of_le h10 (by rw [Nat.pow_succ]; exact Nat.le_mul_of_pos_left 10 (Nat.pow_pos (by decide)))
    · have st := numL_step (n := n) (by omega)
      rw [st, List.length_append] at h
      have ih := numL_big k (n / 10) (by simpa using h)
      rw [Nat.pow_succ]
      omega
theorem fits_lt {n : Int} (h : fitsN (some 30) n) : n.natAbs < 10 ^ 30 := numL_big 30 _ (h 30 rfl)
theorem lt_fits {n : Int} (h : n.natAbs < 10 ^ 30) : fitsN (some 30) n := fun d hd => by
  cases hd
  exact numL_len (by decide) h
/-- from one statement to the next, by what holds between them -/
theorem seq_by {t1 t2 : TS} {D : Ends} {σ : L2.St} {H : Hp} (M : L2.St → Hp → Prop) (h1 : ∀ Nx : L2.St → Hp → Prop, (∀ σ' H', M σ' H' → Nx σ' H') → t1 { D with nx := Nx } σ H) (h2 : ∀ σ' H', M σ' H' → t2 D σ' H') : tSeq t1 t2 D σ H := h1 (t2 D) h2
structure Row where
  k : Str
  a : Int
  b : Int
  o : Option Str
def Row.vs (r : Row) : List V := [.str r.k, .int r.a, .int r.b, oS r.o]
def Row.t (r : Row) : Str := mkT r.k r.a r.b r.o
structure Row.Ok (r : Row) : Prop where
  v : Val r.k r.a r.b r.o
  la : r.a.natAbs < 10 ^ 30
  lb : r.b.natAbs < 10 ^ 30
theorem Row.Ok.rd {r : Row} (h : r.Ok) : RdW (some 30) (words r.t) r.k r.a r.b r.o := mk_reads h.v.kin h.v.zo (lt_fits h.la) (lt_fits h.lb) h.v.le h.v.nm
theorem Row.Ok.len {r : Row} (h : r.Ok) : r.t.length ≤ 200 :=
  mk_len h.v (Nat.lt_trans h.la (by decide +kernel)) (Nat.lt_trans h.lb (by decide +kernel))
theorem Row.Ok.inj {r q : Row} (h : r.Ok) (h' : q.Ok) (e : r.t = q.t) : r = q := by
  obtain ⟨e1, e2, e3, e4⟩ := mk_inj h.v.kin h.v.nm h'.v.kin h'.v.nm e
  cases r
  cases q
  simp only at e1 e2 e3 e4
  subst e1 e2 e3 e4
  rfl
/-- at l the tuples of these rows -/
def RowsAt (H : Hp) (l : Addr) (rs : List Row) : Prop := ∃ ps : List Addr, H l = some (.lst (ps.map V.ref)) ∧ ps.length = rs.length ∧ ∀ (i : Nat) (p : Addr) (r : Row), ps[i]? = some p → rs[i]? = some r → H p = some (.tup r.vs)
theorem RowsAt.same {H H' : Hp} {l : Addr} {rs : List Row} (s : Same H H') (h : RowsAt H l rs) : RowsAt H' l rs := by
  obtain ⟨ps, h1, h2, h3⟩ := h
  exact ⟨ps, s _ _ h1, h2, fun i p r e1 e2 => s _ _ (h3 i p r e1 e2)⟩
theorem RowsAt.snoc {H : Hp} {l : Addr} {rs : List Row} (h : RowsAt H l rs) {p : Addr} {r : Row} (hp : H p = some (.tup r.vs)) : ∃ xs, H l = some (.lst xs) ∧ xs.length = rs.length ∧ RowsAt (upd H l (.lst (xs ++ [.ref p]))) l (rs ++ [r]) := by
  obtain ⟨ps, h1, h2, h3⟩ := h
  have ne : ∀ c u, H c = some (.tup u) → c ≠ l := fun c u e z => by
    rw [z, h1] at e
    cases e
  refine ⟨_, h1, by rw [List.length_map, h2], ps ++ [p], ?_, by rw [List.length_append, List.length_append, h2]; rfl, fun i q s e1 e2 => ?_⟩
  · rw [upd_same, List.map_append]
    rfl
  · rcases Nat.lt_or_ge i ps.length with hi | hi
    · rw [List.getElem?_append_left hi] at e1
      rw [List.getElem?_append_left (by omega)] at e2
      have := h3 i q s e1 e2
      rw [upd_ne (ne _ _ this)]
      exact this
    · rw [List.getElem?_append_right hi] at e1
      rw [List.getElem?_append_right (by omega)] at e2
      have e0 : i - ps.length = 0 := by
        rcases Nat.eq_zero_or_pos (i - ps.length) with z | z
        · exact z
        · rw [List.getElem?_eq_none (by simp only [List.length_cons, List.length_nil]; omega)] at e1
          cases e1
      rw [e0] at e1
      rw [← h2, e0] at e2
      cases e1
      cases e2
      rw [upd_ne (ne _ _ hp)]
      exact hp
theorem name_more {n : Str} (h : nameL (tl n)) (hl : n.length < 12) : nameL (tl (n ++ "a")) := by
  have e : tl ("a" : Str) = [97] := by decide +kernel
  rw [tl_append, e]
  rw [len_tl] at hl
  refine ⟨by simp, by rw [List.length_append]; show (tl n).length + 1 ≤ 12; omega, fun c hc => ?_⟩
  rcases List.mem_append.mp hc with hc | hc
  · exact h.2.2 c hc
  · rw [List.mem_singleton.mp hc]
    decide
theorem rows_two {H : Hp} {t1 t2 l : Addr} (r1 r2 : Row) (h1 : H t1 = none) (h2 : (upd H t1 (.tup r1.vs)) t2 = none) (h3 : (upd (upd H t1 (.tup r1.vs)) t2 (.tup r2.vs)) l = none) :
    RowsAt (upd (upd (upd H t1 (.tup r1.vs)) t2 (.tup r2.vs)) l (.lst [.ref t1, .ref t2])) l [r1, r2] ∧ Same H (upd (upd (upd H t1 (.tup r1.vs)) t2 (.tup r2.vs)) l (.lst [.ref t1, .ref t2])) ∧ H l = none := by
  have s1 : Same H (upd H t1 (.tup r1.vs)) := same_upd h1
  have s2 : Same (upd H t1 (.tup r1.vs)) (upd (upd H t1 (.tup r1.vs)) t2 (.tup r2.vs)) := same_upd h2
  have s3 : Same (upd (upd H t1 (.tup r1.vs)) t2 (.tup r2.vs)) (upd (upd (upd H t1 (.tup r1.vs)) t2 (.tup r2.vs)) l (.lst [.ref t1, .ref t2])) := same_upd h3
  refine ⟨⟨[t1, t2], upd_same, rfl, fun i p r e1 e2 => ?_⟩, s1.trans (s2.trans s3), Same.free (s1.trans s2) h3⟩
  match i with
  | 0 =>
    cases e1
    cases e2
    exact s3 _ _ (s2 _ _ upd_same)
  | 1 =>
    cases e1
    cases e2
    exact s3 _ _ upd_same
  | n + 2 => simp at e1
def swapD : List (Key × V) := [(Sum.inr "float", .str "fixed"), (Sum.inr "fixed", .str "float")]
theorem sw_ne : ¬ ((Sum.inr ("float" : Str) : Key) = Sum.inr ("fixed" : Str)) := fun z => absurd (Sum.inr.inj z) (by decide +kernel)
theorem swap1 {H : Hp} {d : Addr} (h : H d = some (.dK swapD)) : DGet H d (.str "float") (some (.str "fixed")) := by
  have z := DGet.k (k := Sum.inr "float") h
  have e : valV swapD (Sum.inr "float") = some (.str "fixed") := valV_pos rfl
  rw [e] at z
  exact z
theorem swap2 {H : Hp} {d : Addr} (h : H d = some (.dK swapD)) : DGet H d (.str "fixed") (some (.str "float")) := by
  have z := DGet.k (k := Sum.inr "fixed") h
  have e : valV swapD (Sum.inr "fixed") = some (.str "float") := (valV_neg sw_ne).trans (valV_pos rfl)
  rw [e] at z
  exact z
theorem ne_z1 : ¬ ("zoned" : Str) = "float" := by decide +kernel
theorem ne_z2 : ¬ ("zoned" : Str) = "fixed" := by decide +kernel
theorem ne_f1 : ¬ ("fixed" : Str) = "zoned" := by decide +kernel
theorem ne_f2 : ¬ ("float" : Str) = "zoned" := by decide +kernel
theorem ne_c1 : ¬ ("fixed" : Str) = "float" := by decide +kernel
theorem ne_c2 : ¬ ("float" : Str) = "fixed" := by decide +kernel
theorem swap_m : mergeK [] swapD = swapD := by
  have n1 : ¬ ("float" : Str) = "fixed" := by decide +kernel
  simp [mergeK, swapD, putK, n1]
theorem made {C x dx : Addr} {r : Row} (ok : r.Ok) {H H' : Hp} (nx : H x = none) (ndx : H dx = none) {k : Str} {a b : Int} {o : Option Str} (rd : RdW (some 30) (words r.t) k a b o)
    (kp : ∀ c u, (upd (upd H dx (.own x)) x (.ins C dx [])) c = some u → c ≠ x → H' c = some u) (en : EntA C x r.t k a b o H') : Same H H' ∧ EntA C x r.t r.k r.a r.b r.o H' := by
  obtain ⟨rfl, rfl, rfl, rfl⟩ := rd.uniq ok.rd
  refine ⟨fun c u q => kp c u ?_ (ne_of_none q nx), en⟩
  rw [upd_ne (ne_of_none q nx), upd_ne (ne_of_none q ndx)]
  exact q
def spUR (K : PySem.W.Frag) : Sp := fun vs H Q _ => ∃ (x p : Addr) (r : Row), vs = [.ref x, .ref p] ∧ EntA (He.ga K "Entry") x r.t r.k r.a r.b r.o H ∧ r.Ok ∧
  H p = some (.tup (dueV (some (r.t, r.k, r.a, r.b, r.o)))) ∧ ∀ H', Same H H' → Q (.bl true) H'
section
variable {P : Program} {w : World} {K : PySem.W.Frag} {mg : Str → Option Value} {base : Heap} {f : Addr} {fd : FuncData}
structure DUR (P : Program) (w : World) (K : PySem.W.Frag) (mg : Str → Option Value) (base : Heap) (CB : Addr) : Prop extends DOf P w K mg base CB where
  law_entry_text : Df P w K mg base CX0 1 "_law_entry_text" ["_law_entry"] (spTxt K)
  eq : Me P w K mg base 1 "__eq__" ["self", "other"] (spEq (He.ga K "Entry") K)
  ox : Ox K
theorem scUR : FnScope ["_law_entry", "_law_due", "_law_text", "_law_kind", "_law_first", "_law_last", "_law_zone", "_law_whole_here", "_law_rows", "_law_others", "_law_row", "_law_other"] ["_law_entry", "_law_due"] (defScope (top 34)) := ⟨rfl, rfl, rfl, by decide +kernel, rfl, by decide +kernel, by decide +kernel⟩
theorem ok_UR {CB : Addr} (F : FnG K "_law_unlike_right" 34 f fd) (T : Tx K mg) (D : DUR P w K mg base CB) : FnOk P w K mg base CX0 10 f fd ["_law_entry", "_law_due"] (spUR K) := by
  refine F.ok scUR (fun vs H Q E h => ?_) (fun cdv A outer s H vs Q E hr h => ?_)
  · obtain ⟨x, p, r, rfl, _⟩ := h
    rfl
  · obtain ⟨x, p, r0, rfl, ⟨dx, hx⟩, ok, hp, good⟩ := h
    obtain ⟨fE, fdE, GE, ie, fe, bE⟩ := D.eq.ok
    obtain ⟨fdI, GI, _, ds, rE, Bent⟩ := D.ini
    refine ⟨_, PSs.nox (pss_cons (ps_asg (pv 1) (pg_tup rfl (pgs_cons (pg_name (i := 2) scUR.nd rfl (Or.inl rfl)) (pgs_cons (pg_name (i := 3) scUR.nd rfl (Or.inl rfl)) (pgs_cons (pg_name (i := 4) scUR.nd rfl (Or.inl rfl)) (pgs_cons (pg_name (i := 5) scUR.nd rfl (Or.inl rfl)) (pgs_cons (pg_name (i := 6) scUR.nd rfl (Or.inl rfl)) (pgs_cons (pg_name (i := 7) scUR.nd rfl (Or.inl rfl)) pgs_nil))))))))
        (pss_cons (ps_set (i := 8) scUR.nd rfl (Or.inl rfl) (pe_lst pa_nil))
        (pss_cons (ps_if (pt_cmpR op_lt (pv 4) (pv 5) (nomark _)) (pss_one (ps_set (i := 8) scUR.nd rfl (Or.inl rfl) (pe_lst (pa_cons (pe_tup (pa_cons (pv 3) (pa_cons (pv 4) (pa_cons (pe_op op_sub (pv 5) pe_int) (pa_cons (pv 6) pa_nil))))) (pa_cons (pe_tup (pa_cons (pv 3) (pa_cons (pe_op op_add (pv 4) pe_int) (pa_cons (pv 5) (pa_cons (pv 6) pa_nil))))) pa_nil))))) (pss_one (ps_if (pt_cmpR op_lt (pe_callB call_abs (by rfl) T.abs (by decide +kernel) (pa_cons (pv 4) pa_nil)) (pe_op op_pow pe_int pe_int) (nomark _)) (pss_one (ps_set (i := 8) scUR.nd rfl (Or.inl rfl) (pe_lst (pa_cons (pe_tup (pa_cons (pv 3) (pa_cons (pe_op op_sub (pv 4) pe_int) (pa_cons (pv 5) (pa_cons (pv 6) pa_nil))))) (pa_cons (pe_tup (pa_cons (pv 3) (pa_cons (pv 4) (pa_cons (pe_op op_add (pv 5) pe_int) (pa_cons (pv 6) pa_nil))))) pa_nil))))) pss_nil)))
        (pss_cons (ps_if (pt_cmpR op_in_seq (pv 3) (pe_tup (pa_cons pe_str (pa_cons pe_str pa_nil))) (by rfl)) (pss_one (ps_expr (pe_bm PySem.F.plainAttrs_list PySem.F.slot_list_append PySem.F.type_list_append mt_append (pv 8) (pa_cons (pe_tup (pa_cons (pe_dget (hu_of hr) (pe_disp (pps_cons pe_str pe_str (pps_cons pe_str pe_str pps_nil)) (by rfl) (by rfl) (fun z => by cases z) (by decide)) (pv 3) (fun _ _ => rfl)) (pa_cons (pv 4) (pa_cons (pv 5) (pa_cons (pv 6) pa_nil))))) pa_nil)))) pss_nil)
        (pss_cons (ps_if (PW.pt (pw_and (pt_cmpR op_notN (pv 6) pe_non (nomark _)) (pw_and1 (pt_cmpR op_lt (pe_callB call_len_str (by rfl) T.len PySem.boot_len (pa_cons (pv 6) pa_nil)) pe_int (nomark _))))) (pss_one (ps_expr (pe_bm PySem.F.plainAttrs_list PySem.F.slot_list_append PySem.F.type_list_append mt_append (pv 8) (pa_cons (pe_tup (pa_cons (pv 3) (pa_cons (pv 4) (pa_cons (pv 5) (pa_cons (pe_op op_add_str (pv 6) pe_str) pa_nil))))) pa_nil)))) pss_nil)
        (pss_cons (ps_setLc (i := 9) (own := [("_law_row", 10)]) (g := gName 10) (tt := tYes) rfl scUR.nd rfl rfl (sw_true rfl rfl rfl (by decide +kernel)) (pi_list (pv 8)) (blkOk_by (own := [("_law_row", 10)]) (N := ["_law_entry", "_law_due", "_law_text", "_law_kind", "_law_first", "_law_last", "_law_zone", "_law_whole_here", "_law_rows", "_law_others", "_law_row", "_law_other"]) (sc := defScope (top 34)) (by decide +kernel)) (fun _ _ _ _ _ => pg_name (i := 10) scUR.nd rfl (Or.inl rfl)) (fun _ _ _ _ _ => pts_nil) (fun _ _ _ _ _ => (pe_make (E := fun _ _ _ => False) D.mkE GI (hr.mono (by decide)) rfl T.Entry Bent rE passF (pa_cons (pe_cd D.law_entry_text (hr.mono (by decide)) pass0 (pa_cons (pv 10) pa_nil)) pa_nil))))
        (pss_cons (ps_if (PW.pt (pw_or (pt_val (pe_callB (cr_any rfl) (by rfl) T.any (by decide +kernel) (pa_cons (pe_lc (own := [("_law_other", 11)]) (g := gName 11) (tt := tYes) rfl scUR.nd (pi_list (pv 9)) (blkOk_by (own := [("_law_other", 11)]) (N := ["_law_entry", "_law_due", "_law_text", "_law_kind", "_law_first", "_law_last", "_law_zone", "_law_whole_here", "_law_rows", "_law_others", "_law_row", "_law_other"]) (sc := defScope (top 34)) (by decide +kernel)) (fun _ _ _ _ _ => pg_name (i := 11) scUR.nd rfl (Or.inl rfl)) (fun _ _ _ _ _ => pts_nil) (fun _ _ _ _ _ => (pe_or (pe_cmpR (op_eqO GE (hr.mono (by decide)) ie fe D.ox.ss bE pass0) (pv 0) (pv 11) (nomark _)) (pe_one (pe_cmpR (op_eqO GE (hr.mono (by decide)) ie fe D.ox.ss bE pass0) (pv 11) (pv 0) (nomark _)))))) pa_nil))) (pw_or1 (pt_not (pt_val (pe_callB (cr_all rfl) (by rfl) T.all (by decide +kernel) (pa_cons (pe_lc (own := [("_law_other", 11)]) (g := gName 11) (tt := tYes) rfl scUR.nd (pi_list (pv 9)) (blkOk_by (own := [("_law_other", 11)]) (N := ["_law_entry", "_law_due", "_law_text", "_law_kind", "_law_first", "_law_last", "_law_zone", "_law_whole_here", "_law_rows", "_law_others", "_law_row", "_law_other"]) (sc := defScope (top 34)) (by decide +kernel)) (fun _ _ _ _ _ => pg_name (i := 11) scUR.nd rfl (Or.inl rfl)) (fun _ _ _ _ _ => pts_nil) (fun _ _ _ _ _ => (pe_cmpR (op_neO GE (hr.mono (by decide)) ie D.ox.ne T.ob fe bE pass0) (pv 0) (pv 11) (nomark _)))) pa_nil))))))) (pss_one (ps_ret pe_bl)) pss_nil)
        (pss_one (ps_ret (pe_and (pe_cmpR (op_eqO GE (hr.mono (by decide)) ie fe D.ox.ss bE pass0) (pv 0) (pe_make (E := fun _ _ _ => False) D.mkE GI (hr.mono (by decide)) rfl T.Entry Bent rE passF (pa_cons (pv 2) pa_nil)) (nomark _)) (pe_one (pe_not (pe_cmpR (op_neO GE (hr.mono (by decide)) ie D.ox.ne T.ob fe bE pass0) (pv 0) (pe_make (E := fun _ _ _ => False) D.mkE GI (hr.mono (by decide)) rfl T.Entry Bent rE passF (pa_cons (pv 2) pa_nil)) (nomark _)))))))))))))), ?_⟩
    refine ⟨_, rfl, p, _, rfl, SqT.of hp, rfl, _, _, rfl, _, _, rfl, _, _, rfl, _, _, rfl, _, _, rfl, _, _, rfl, rfl, ?_⟩
    refine ⟨(by show 0 ≤ sizeLine; decide), fun l0 hl0 => ?_⟩
    let M : Nat → L2.St → Hp → Prop := fun n σ' H' => ∃ l rs, σ' = [some (.ref x), some (.ref p), some (.str r0.t), some (.str r0.k), some (.int r0.a), some (.int r0.b), some (oS r0.o), some (.bl true), some (.ref l), none, none, none] ∧
      H l = none ∧ Same H H' ∧ RowsAt H' l rs ∧ (∀ q ∈ rs, q.Ok ∧ q ≠ r0) ∧ rs.length ≤ n
    have e30 : (10 : Nat) ^ 30 = 1000000000000000000000000000000 := by decide +kernel
    have la := ok.la
    have lb := ok.lb
    have le := ok.v.le
    rw [e30] at la lb
    have sl0 : Same H (upd H l0 (.lst [])) := same_upd hl0
    dsimp only [gName]
    refine seq_by (M 2) (fun Nx hN => ?_) (fun σ1 H1 hM1 => ?_)
    · have okR : ∀ a b : Int, a ≤ b → a.natAbs < 10 ^ 30 → b.natAbs < 10 ^ 30 → (a ≠ r0.a ∨ b ≠ r0.b) → (⟨r0.k, a, b, r0.o⟩ : Row).Ok ∧ (⟨r0.k, a, b, r0.o⟩ : Row) ≠ r0 := fun a b h1 h2 h3 h4 =>
        ⟨⟨⟨ok.v.kin, ok.v.zo, h1, ok.v.nm⟩, h2, h3⟩, fun e => by
          rcases h4 with h4 | h4
          · exact h4 (congrArg Row.a e)
          · exact h4 (congrArg Row.b e)⟩
      have two : ∀ (r1 r2 : Row) (t1 t2 l : Addr), (r1.Ok ∧ r1 ≠ r0) → (r2.Ok ∧ r2 ≠ r0) → (upd H l0 (.lst [])) t1 = none → (upd (upd H l0 (.lst [])) t1 (.tup r1.vs)) t2 = none →
          (upd (upd (upd H l0 (.lst [])) t1 (.tup r1.vs)) t2 (.tup r2.vs)) l = none → M 2 [some (.ref x), some (.ref p), some (.str r0.t), some (.str r0.k), some (.int r0.a), some (.int r0.b), some (oS r0.o), some (.bl true), some (.ref l), none, none, none]
            (upd (upd (upd (upd H l0 (.lst [])) t1 (.tup r1.vs)) t2 (.tup r2.vs)) l (.lst [.ref t1, .ref t2])) := fun r1 r2 t1 t2 l o1 o2 h1 h2 h3 => by
        obtain ⟨q1, q2, q3⟩ := rows_two r1 r2 h1 h2 h3
        refine ⟨l, [r1, r2], rfl, Same.free sl0 q3, sl0.trans q2, q1, fun q hq => ?_, Nat.le_refl 2⟩
        simp only [List.mem_cons, List.not_mem_nil, or_false] at hq
        rcases hq with rfl | rfl
        · exact o1
        · exact o2
      refine ⟨_, rfl, _, rfl, _, _, rfl, rfl, _, rfl, ifC (fun h => ?_) (fun h => ?_)⟩
      · refine ⟨_, rfl, _, rfl, _, rfl, _, _, rfl, rfl, _, rfl, (by show 4 ≤ sizeLine; decide), fun t1 ht1 => ⟨_, rfl, _, rfl, _, _, rfl, rfl, _, rfl, _, rfl, (by show 4 ≤ sizeLine; decide), fun t2 ht2 => ⟨(by show 2 ≤ sizeLine; decide), fun l hl => ?_⟩⟩⟩
        exact hN _ _ (two ⟨r0.k, r0.a, r0.b - 1, r0.o⟩ ⟨r0.k, r0.a + 1, r0.b, r0.o⟩ t1 t2 l (okR _ _ (by omega) (by rw [e30]; omega) (by rw [e30]; omega) (by omega)) (okR _ _ (by omega) (by rw [e30]; omega) (by rw [e30]; omega) (by omega)) ht1 ht2 hl)
      · have eab : r0.a = r0.b := by
          have h : ¬ r0.a < r0.b := h
          omega
        refine ⟨_, rfl, _, rfl, 10, 20, rfl, rfl, ⟨by decide, by decide, by decide⟩, _, _, rfl, rfl, _, rfl, ifC (fun h2 => ?_) (fun h2 => ?_)⟩
        · have h3 : (if r0.a < 0 then -r0.a else r0.a) < (10 : Int) ^ (20 : Int).toNat := h2
          have e20 : (10 : Int) ^ (20 : Int).toNat = 100000000000000000000 := by decide +kernel
          rw [e20] at h3
          have h4 : r0.a.natAbs < 100000000000000000000 := by
            split at h3 <;> omega
          refine ⟨_, rfl, _, rfl, _, _, rfl, rfl, _, rfl, _, rfl, (by show 4 ≤ sizeLine; decide), fun t1 ht1 => ⟨_, rfl, _, rfl, _, rfl, _, _, rfl, rfl, _, rfl, (by show 4 ≤ sizeLine; decide), fun t2 ht2 => ⟨(by show 2 ≤ sizeLine; decide), fun l hl => ?_⟩⟩⟩
          exact hN _ _ (two ⟨r0.k, r0.a - 1, r0.b, r0.o⟩ ⟨r0.k, r0.a, r0.b + 1, r0.o⟩ t1 t2 l (okR _ _ (by omega) (by rw [e30]; omega) (by rw [e30]; omega) (by omega)) (okR _ _ (by omega) (by rw [e30]; omega) (by rw [e30]; omega) (by omega)) ht1 ht2 hl)
        · exact hN _ _ ⟨l0, [], rfl, hl0, sl0, ⟨[], upd_same, rfl, fun i p r e1 e2 => (by cases e1)⟩, fun q hq => absurd hq List.not_mem_nil, Nat.zero_le 2⟩
    have more : ∀ (n : Nat) (l : Addr) (rs : List Row) (H' : Hp) (q : Row) (pq : Addr), n ≤ 10 → H l = none → Same H H' → RowsAt H' l rs → (∀ q ∈ rs, q.Ok ∧ q ≠ r0) → rs.length ≤ n → (q.Ok ∧ q ≠ r0) → H' pq = some (.tup q.vs) →
        ∃ xs, H' l = some (.lst xs) ∧ xs.length < sizeLine ∧ M (n + 1) [some (.ref x), some (.ref p), some (.str r0.t), some (.str r0.k), some (.int r0.a), some (.int r0.b), some (oS r0.o), some (.bl true), some (.ref l), none, none, none] (upd H' l (.lst (xs ++ [.ref pq]))) :=
      fun n l rs H' q pq h10 nl s1 ra al ln oq hq => by
        obtain ⟨xs, h1, h2, h3⟩ := ra.snoc hq
        refine ⟨xs, h1, by rw [sizeLine_eq]; omega, l, rs ++ [q], rfl, nl, fun c u e => ?_, h3, fun z hz => ?_, by rw [List.length_append]; simpa using ln⟩
        · rw [upd_ne (ne_of_none e nl)]
          exact s1 c u e
        · rcases List.mem_append.mp hz with hz | hz
          · exact al z hz
          · rw [List.mem_singleton.mp hz]
            exact oq
    refine seq_by (M 3) (fun Nx hN => ?_) (fun σ2 H2 hM2 => ?_)
    · obtain ⟨l, rs, rfl, nl, s1, ra, al, ln⟩ := hM1
      refine ⟨_, rfl, (by show 2 ≤ sizeLine; decide), fun u hu => ?_⟩
      have su : Same H1 (upd H1 u (.tup [.str "float", .str "fixed"])) := same_upd hu
      have hu2 : (upd H1 u (.tup [.str "float", .str "fixed"])) u = some (.tup [.str "float", .str "fixed"]) := upd_same
      generalize upd H1 u (.tup [.str "float", .str "fixed"]) = H1' at su hu2 ⊢
      refine ⟨u, _, rfl, .inr (SqT.of hu2), rfl, rfl, _, rfl, ifQ (fun h => ?_) (fun h => hN _ _ ⟨l, rs, rfl, nl, s1.trans su, ra.same su, al, by omega⟩)⟩
      have hk : r0.k = "float" ∨ r0.k = "fixed" := by
        have h' : inV (.str r0.k) [.str "float", .str "fixed"] = true := h
        simp only [inV, List.any_cons, List.any_nil, eqV, Bool.or_eq_true, Bool.or_false, beq_iff_eq] at h'
        rcases h' with e | e
        · exact .inl e.symm
        · exact .inr e.symm
      have ra' := ra.same su
      obtain ⟨ps, hl, _⟩ := id ra'
      have hd3 : ∀ d : Addr, H1' d = none → Same H1' (upd (upd H1' d (.dK [])) d (.dK (mergeK [] swapD))) := fun d hd c o e => by
        rw [upd_ne (ne_of_none e hd), upd_ne (ne_of_none e hd)]
        exact e
      rcases hk with hk | hk
      · refine ⟨_, rfl, .inl ⟨rfl, _, SqL.of hl⟩, fun d hd => ⟨upd_same, swapD, rfl, (show 2 ≤ 15 by decide), _, rfl, d, .str "fixed", rfl, by rw [hk]; exact swap1 (by rw [upd_same, swap_m]), _, rfl, _, rfl, _, rfl, (by show 4 ≤ sizeLine; decide), fun pq hpq => ?_⟩⟩
        have sd := (hd3 d hd).trans (same_upd (o := .tup (Row.vs ⟨"fixed", r0.a, r0.b, r0.o⟩)) hpq)
        obtain ⟨xs, g1, g2, g3⟩ := more 2 l rs _ ⟨"fixed", r0.a, r0.b, r0.o⟩ pq (by decide) nl ((s1.trans su).trans sd) (ra'.same sd) al ln
          ⟨⟨⟨by simp [KS], ⟨fun h => absurd ((ok.v.zo.mp h).symm.trans hk) ne_z1, fun h => absurd h ne_f1⟩, ok.v.le, ok.v.nm⟩, ok.la, ok.lb⟩, fun z => absurd ((congrArg Row.k z).trans hk) ne_c1⟩ upd_same
        exact ⟨l, xs, _, rfl, rfl, g1, g2, hN _ _ g3⟩
      · refine ⟨_, rfl, .inl ⟨rfl, _, SqL.of hl⟩, fun d hd => ⟨upd_same, swapD, rfl, (show 2 ≤ 15 by decide), _, rfl, d, .str "float", rfl, by rw [hk]; exact swap2 (by rw [upd_same, swap_m]), _, rfl, _, rfl, _, rfl, (by show 4 ≤ sizeLine; decide), fun pq hpq => ?_⟩⟩
        have sd := (hd3 d hd).trans (same_upd (o := .tup (Row.vs ⟨"float", r0.a, r0.b, r0.o⟩)) hpq)
        obtain ⟨xs, g1, g2, g3⟩ := more 2 l rs _ ⟨"float", r0.a, r0.b, r0.o⟩ pq (by decide) nl ((s1.trans su).trans sd) (ra'.same sd) al ln
          ⟨⟨⟨by simp [KS], ⟨fun h => absurd ((ok.v.zo.mp h).symm.trans hk) ne_z2, fun h => absurd h ne_f2⟩, ok.v.le, ok.v.nm⟩, ok.la, ok.lb⟩, fun z => absurd ((congrArg Row.k z).trans hk) ne_c2⟩ upd_same
        exact ⟨l, xs, _, rfl, rfl, g1, g2, hN _ _ g3⟩
    refine seq_by (M 4) (fun Nx hN => ?_) (fun σ3 H3 hM3 => ?_)
    · obtain ⟨l, rs, rfl, nl, s1, ra, al, ln⟩ := hM2
      have stay : M 4 [some (.ref x), some (.ref p), some (.str r0.t), some (.str r0.k), some (.int r0.a), some (.int r0.b), some (oS r0.o), some (.bl true), some (.ref l), none, none, none] H2 := ⟨l, rs, rfl, nl, s1, ra, al, by omega⟩
      rcases ho : r0.o with _ | n
      · rw [ho] at stay
        exact ⟨_, rfl, rfl, _, rfl, ifN rfl (hN _ _ stay)⟩
      · have nn := ok.v.nm n ho
        have ln12 := name_len nn
        refine ⟨_, rfl, rfl, _, rfl, ifB rfl ⟨_, rfl, n, rfl, fitL (by omega), _, _, rfl, rfl, _, rfl, ifC (fun h => ?_) (fun h => ?_)⟩⟩
        · have h12 : n.length < 12 := by
            have h' : (n.length : Int) < 12 := h
            omega
          obtain ⟨ps, hl, _⟩ := id ra
          have ga : ("a" : Str).length = 1 := by decide +kernel
          refine ⟨_, rfl, .inl ⟨rfl, _, SqL.of hl⟩, _, rfl, _, rfl, _, rfl, _, rfl, _, _, rfl, rfl, fitL (by omega), (by show 4 ≤ sizeLine; decide), fun pq hpq => ?_⟩
          have sd := same_upd (o := .tup (Row.vs ⟨r0.k, r0.a, r0.b, some (n ++ "a")⟩)) hpq
          obtain ⟨xs, g1, g2, g3⟩ := more 3 l rs _ ⟨r0.k, r0.a, r0.b, some (n ++ "a")⟩ pq (by decide) nl (s1.trans sd) (ra.same sd) al ln
            ⟨⟨⟨ok.v.kin, ⟨fun _ => ok.v.zo.mp (by rw [ho]; rfl), fun _ => rfl⟩, ok.v.le, fun m hm => by cases hm; exact name_more nn h12⟩, ok.la, ok.lb⟩, fun z => by
              have e := (congrArg Row.o z).trans ho
              have e2 := congrArg Str.length (Option.some.inj e)
              rw [len_app] at e2
              omega⟩ upd_same
          rw [ho] at g3
          exact ⟨l, xs, _, rfl, rfl, g1, g2, hN _ _ g3⟩
        · rw [ho] at stay
          exact hN _ _ stay
    obtain ⟨l, rs, rfl, nl, s3, ra, al, ln⟩ := hM3
    obtain ⟨ps, hl, lps, hps⟩ := ra
    have pi_at : ∀ i : Nat, i < ps.length → ∃ (pi : Addr) (q : Row), ps[i]? = some pi ∧ rs[i]? = some q ∧ q ∈ rs ∧ H3 pi = some (.tup q.vs) := fun i hi => by
      have hi2 : i < rs.length := by omega
      exact ⟨ps[i], rs[i], List.getElem?_eq_getElem hi, List.getElem?_eq_getElem hi2, List.getElem_mem hi2, hps i _ _ (List.getElem?_eq_getElem hi) (List.getElem?_eq_getElem hi2)⟩
    let EA : Hp → List Addr → Prop := fun H' es => ∀ (j : Nat) (e : Addr) (q : Row), es[j]? = some e → rs[j]? = some q → EntA (He.ga K "Entry") e q.t q.k q.a q.b q.o H'
    refine ⟨_, rfl, l, rfl, ⟨_, SqL.of hl⟩, fun D hD => lc_list (K := K) (a := l) (xs := ps.map V.ref)
      (fun i H' => Same H3 H' ∧ ∃ es : List Addr, H' D = some (.lst (es.map V.ref)) ∧ es.length = i ∧ EA H' es) ⟨same_upd hD, [], upd_same, rfl, fun j e q e1 e2 => by cases e1⟩ (fun i H' hi hP => SqL.of (hP.1 _ _ hl)) ?_ ?_⟩
    · rintro i x0 H' hx0 ⟨sP, es, hD', les, ea⟩
      obtain ⟨hi, rfl⟩ : ∃ hi : i < ps.length, x0 = .ref (ps[i]) := by
        rw [List.getElem?_map] at hx0
        rcases h : ps[i]? with _ | pi
        · rw [h] at hx0
          cases hx0
        · obtain ⟨hi, e⟩ := List.getElem?_eq_some_iff.mp h
          rw [h] at hx0
          cases hx0
          exact ⟨hi, by rw [e]⟩
      obtain ⟨pi, q, e1, e2, hq, hpi⟩ := pi_at i hi
      have e3 : ps[i] = pi := by
        rw [List.getElem?_eq_getElem hi] at e1
        exact Option.some.inj e1
      rw [e3]
      have oq := (al q hq).1
      refine ⟨rfl, ?_⟩
      refine iteT (B := Same H3 H' ∧ ∃ es : List Addr, H' D = some (.lst (es.map V.ref)) ∧ es.length = i + 1 ∧ EA H' es) ?_
      refine ⟨_, rfl, pi, q.k, q.a, q.b, q.o, rfl, SqT.of (sP _ _ hpi), by have := ks_len oq.v.kin; omega, Nat.lt_trans oq.la (by decide +kernel), Nat.lt_trans oq.lb (by decide +kernel), fun n hn => by have := name_len (oq.v.nm n hn); omega, ?_⟩
      refine fun e de ne nde ned => ⟨e, de, .str q.t, some 30, rfl, upd_same, .inl ⟨q.t, rfl, by have := oq.len; omega, fun k' a' b' o' rd H4 kp en => ⟨rfl, ?_⟩, fun no => absurd oq.rd (no _ _ _ _)⟩⟩
      obtain ⟨s4, en4⟩ := made oq ne nde rd kp en
      have nD : ∀ c C d fs, H4 c = some (.ins C d fs) → c ≠ D := fun c C d fs h z => by
        have := s4 _ _ hD'
        rw [← z, h] at this
        cases this
      refine ⟨_, s4 _ _ hD', by rw [List.length_map, sizeLine_eq]; omega, fun c u h => ?_, es ++ [e], ?_, by rw [List.length_append, les]; rfl, fun j e' q' f1 f2 => ?_⟩
      · rw [upd_ne (ne_of_none h hD)]
        exact s4 _ _ (sP _ _ h)
      · rw [upd_same, List.map_append]
        rfl
      · have lift : ∀ c z k a b o, EntA (He.ga K "Entry") c z k a b o H4 → EntA (He.ga K "Entry") c z k a b o (upd H4 D (.lst (es.map V.ref ++ [.ref e]))) := fun c z k a b o ⟨d, h⟩ => ⟨d, by rw [upd_ne (nD _ _ _ _ h)]; exact h⟩
        rcases Nat.lt_or_ge j es.length with hj | hj
        · rw [List.getElem?_append_left hj] at f1
          exact lift _ _ _ _ _ _ ((ea j e' q' f1 f2).same s4)
        · have ej : j = i := by
            have : j < (es ++ [e]).length := (List.getElem?_eq_some_iff.mp f1).1
            rw [List.length_append] at this
            have : j < es.length + 1 := this
            omega
          subst ej
          rw [List.getElem?_append_right hj, les, Nat.sub_self] at f1
          cases f1
          rw [e2] at f2
          cases f2
          exact lift _ _ _ _ _ _ en4
    rintro H4 ⟨s4, es, hD4, les, ea⟩
    rw [List.length_map] at les
    dsimp only [gName]
    have s04 := s3.trans s4
    have hx4 := s04 _ _ hx
    have es_at : ∀ (i : Nat) (x0 : V), (es.map V.ref)[i]? = some x0 → ∃ (e de : Addr) (q : Row), x0 = .ref e ∧ q.t ≠ r0.t ∧ H4 e = some (.ins (He.ga K "Entry") de (eFs q.t q.k q.a q.b q.o)) := fun i x0 h => by
      rw [List.getElem?_map] at h
      rcases he : es[i]? with _ | e
      · rw [he] at h
        cases h
      · rw [he] at h
        cases h
        have hi : i < es.length := (List.getElem?_eq_some_iff.mp he).1
        obtain ⟨pi, q, e1, e2, hq, _⟩ := pi_at i (by omega)
        obtain ⟨de, h⟩ := ea i e q he e2
        exact ⟨e, de, q, rfl, fun z => (al q hq).2 ((al q hq).1.inj ok z), h⟩
    have grow : ∀ (i : Nat) (c : Bool), ((List.replicate (i + 1) c).map V.bl) = (List.replicate i c).map V.bl ++ [V.bl c] := fun i c => by
      rw [List.replicate_succ', List.map_append]
      rfl
    have lenE : es.length ≤ 4 := by omega
    refine ⟨_, rfl, D, rfl, ⟨_, SqL.of hD4⟩, fun B hB => lc_list (K := K) (a := D) (xs := es.map V.ref)
      (fun i H' => Same H4 H' ∧ H' B = some (.lst ((List.replicate i false).map V.bl))) ⟨same_upd hB, upd_same⟩ (fun i H' hi hP => SqL.of (hP.1 _ _ hD4)) ?_ ?_⟩
    · rintro i x0 H' hx0 ⟨sP, hB'⟩
      have hi : i < es.length := by
        have := (List.getElem?_eq_some_iff.mp hx0).1
        rwa [List.length_map] at this
      obtain ⟨e, de, q, rfl, ne, he⟩ := es_at i x0 hx0
      have hx' := sP _ _ hx4
      have he' := sP _ _ he
      refine ⟨rfl, ?_⟩
      refine iteT (B := Same H4 H' ∧ H' B = some (.lst ((List.replicate (i + 1) false).map V.bl))) ?_
      refine ⟨_, rfl, _, rfl, x, dx, _, rfl, hx', .inl ⟨e, de, _, rfl, he'⟩, x, _, _, _, _, _, _, rfl, ⟨_, hx'⟩, .inl ⟨e, _, _, _, _, _, rfl, ⟨_, he'⟩, _, rfl, ifN (decide_eq_false (Ne.symm ne)) ?_⟩⟩
      refine ⟨_, rfl, _, rfl, e, de, _, rfl, he', .inl ⟨x, dx, _, rfl, hx'⟩, e, _, _, _, _, _, _, rfl, ⟨_, he'⟩, .inl ⟨x, _, _, _, _, _, rfl, ⟨_, hx'⟩, _, hB', by rw [List.length_map, List.length_replicate, sizeLine_eq]; omega, fun c u h => ?_, ?_⟩⟩
      · rw [upd_ne (ne_of_none h hB)]
        exact sP _ _ h
      · rw [upd_same, decide_eq_false ne, grow]
    rintro H5 ⟨s5, hB5⟩
    refine ⟨B, _, rfl, SqL.of hB5, _, rfl, ifN (by simp) ?_⟩
    have hD5 := s5 _ _ hD4
    have hx5 := s5 _ _ hx4
    refine ⟨_, rfl, D, rfl, ⟨_, SqL.of hD5⟩, fun B2 hB2 => lc_list (K := K) (a := D) (xs := es.map V.ref)
      (fun i H' => Same H5 H' ∧ H' B2 = some (.lst ((List.replicate i true).map V.bl))) ⟨same_upd hB2, upd_same⟩ (fun i H' hi hP => SqL.of (hP.1 _ _ hD5)) ?_ ?_⟩
    · rintro i x0 H' hx0 ⟨sP, hB'⟩
      have hi : i < es.length := by
        have := (List.getElem?_eq_some_iff.mp hx0).1
        rwa [List.length_map] at this
      obtain ⟨e, de, q, rfl, ne, he⟩ := es_at i x0 hx0
      have hx' := sP _ _ hx5
      have he' := sP _ _ (s5 _ _ he)
      refine ⟨rfl, ?_⟩
      refine iteT (B := Same H5 H' ∧ H' B2 = some (.lst ((List.replicate (i + 1) true).map V.bl))) ?_
      refine ⟨_, rfl, _, rfl, x, e, dx, de, _, _, rfl, rfl, hx', he', x, _, _, _, _, _, _, rfl, ⟨_, hx'⟩, .inl ⟨e, _, _, _, _, _, rfl, ⟨_, he'⟩, _, rfl, _, hB', by rw [List.length_map, List.length_replicate, sizeLine_eq]; omega, fun c u h => ?_, ?_⟩⟩
      · rw [upd_ne (ne_of_none h hB2)]
        exact sP _ _ h
      · rw [upd_same, decide_eq_false (Ne.symm ne), grow]
        rfl
    rintro H6 ⟨s6, hB6⟩
    refine ⟨B2, _, rfl, SqL.of hB6, _, rfl, ifN (by simp) ?_⟩
    have hx6 := s6 _ _ hx5
    have s06 := s04.trans (s5.trans s6)
    refine ⟨_, rfl, _, rfl, fun e de ne nde ned => ⟨e, de, .str r0.t, some 30, rfl, upd_same, .inl ⟨r0.t, rfl, by have := ok.len; omega, fun k' a' b' o' rd H7 kp en => ⟨rfl, ?_⟩, fun no => absurd ok.rd (no _ _ _ _)⟩⟩⟩
    obtain ⟨s7, de2, he7⟩ := made ok ne nde rd kp en
    have hx7 := s7 _ _ hx6
    refine ⟨x, dx, _, rfl, hx7, .inl ⟨e, de2, _, rfl, he7⟩, x, _, _, _, _, _, _, rfl, ⟨_, hx7⟩, .inl ⟨e, _, _, _, _, _, rfl, ⟨_, he7⟩, _, rfl, ifB (decide_eq_true rfl) ?_⟩⟩
    refine ⟨_, rfl, _, rfl, fun g dg ng ndg ngd => ⟨g, dg, .str r0.t, some 30, rfl, upd_same, .inl ⟨r0.t, rfl, by have := ok.len; omega, fun k' a' b' o' rd H8 kp en => ⟨rfl, ?_⟩, fun no => absurd ok.rd (no _ _ _ _)⟩⟩⟩
    obtain ⟨s8, dg2, hg8⟩ := made ok ng ndg rd kp en
    have hx8 := s8 _ _ hx7
    refine ⟨x, g, dx, dg2, _, _, rfl, rfl, hx8, hg8, x, _, _, _, _, _, _, rfl, ⟨_, hx8⟩, .inl ⟨g, _, _, _, _, _, rfl, ⟨_, hg8⟩, _, rfl, _, rfl, ?_⟩⟩
    rw [decide_eq_true (show r0.t = r0.t from rfl)]
    exact good _ (s06.trans (s7.trans s8))
end
end Wd

set_option maxHeartbeats 4000000
namespace Wd
open PySem PySem.Spec PyProof.Rows L2 Wt TL NumText
def spLaw (K : PySem.W.Frag) : Sp := fun vs H Q _ => ∃ (a : Addr) (ns : List Int), vs = [.ref a] ∧ SqL K H a (ns.map V.int) ∧ ns.length ≤ 63 ∧ ∀ H', Q (.bl true) H'
theorem due_ex (z : Str) : ∃ r, Due z r := by
  by_cases h : ∃ k a b o, RdW (some 30) (words z) k a b o
  · obtain ⟨k, a, b, o, h⟩ := h
    exact ⟨_, .inl ⟨k, a, b, o, h, rfl⟩⟩
  · exact ⟨none, .inr ⟨fun k a b o q => h ⟨k, a, b, o, q⟩, rfl⟩⟩
theorem due_uniq {z : Str} {r r' : Option (Str × Str × Int × Int × Option Str)} (h : Due z r) (h' : Due z r') : r = r' := by
  rcases h with ⟨k, a, b, o, q, rfl⟩ | ⟨no, rfl⟩
  · rcases h' with ⟨k', a', b', o', q', rfl⟩ | ⟨no, rfl⟩
    · obtain ⟨rfl, rfl, rfl, rfl⟩ := q.uniq q'
      rfl
    · exact absurd q (no _ _ _ _)
  · rcases h' with ⟨k', a', b', o', q', rfl⟩ | ⟨_, rfl⟩
    · exact absurd q' (no _ _ _ _)
    · rfl
theorem due_flat (r : Option (Str × Str × Int × Int × Option Str)) : (dueV r).all flatV = true := by
  rcases r with _ | ⟨z, k, a, b, o⟩
  · rfl
  · cases o <;> rfl
theorem not_refused (k : Str) (a b : Int) (o : Option Str) : mkT k a b o ≠ "refused" := fun e => by
  have h1 : 32 ∈ tl (mkT k a b o) := by
    have e : tl (" " : Str) = [32] := by decide +kernel
    rw [← mk_glued]
    simp [tl_append, e]
  rw [e] at h1
  exact absurd h1 (by decide +kernel)
def rDay : Row := ⟨"day", 1, 2, none⟩
def rFlo : Row := ⟨"float", 1, 2, none⟩
theorem day_t : rDay.t = "day 1 to 2" := by decide +kernel
theorem flo_t : rFlo.t = "float 1 to 2" := by decide +kernel
theorem day_ok : rDay.Ok := ⟨⟨by decide +kernel, ⟨fun h => (by cases h), fun h => absurd h (by decide +kernel)⟩, by decide, fun n h => by cases h⟩, by decide +kernel, by decide +kernel⟩
theorem flo_ok : rFlo.Ok := ⟨⟨by decide +kernel, ⟨fun h => (by cases h), fun h => absurd h (by decide +kernel)⟩, by decide, fun n h => by cases h⟩, by decide +kernel, by decide +kernel⟩
theorem made_t {C x dx : Addr} {r : Row} {t : Str} (ok : r.Ok) (et : r.t = t) {H H' : Hp} (nx : H x = none) (ndx : H dx = none) {k : Str} {a b : Int} {o : Option Str} (rd : RdW (some 30) (words t) k a b o)
    (kp : ∀ c u, (upd (upd H dx (.own x)) x (.ins C dx [])) c = some u → c ≠ x → H' c = some u) (en : EntA C x t k a b o H') : Same H H' ∧ EntA C x t r.k r.a r.b r.o H' := by
  subst et
  exact made ok nx ndx rd kp en
section
variable {P : Program} {w : World} {K : PySem.W.Frag} {mg : Str → Option Value} {base : Heap} {f : Addr} {fd : FuncData}
structure DLaw (P : Program) (w : World) (K : PySem.W.Frag) (mg : Str → Option Value) (base : Heap) (CB : Addr) : Prop extends DUR P w K mg base CB where
  law_pen : Df P w K mg base CX0 1 "_law_pen" ["_law_script"] (spPen K)
  law_pick : Df P w K mg base CX0 2 "_law_pick" ["_law_pen_here", "_law_some"] (spPick K)
  law_right_text : Df P w K mg base CX0 6 "_law_right_text" ["_law_pen_here"] (spStr 60 160 50000)
  law_bent : Df P w K mg base CX0 4 "_law_bent" ["_law_pen_here", "_law_text"] spBent
  law_odd_text : Df P w K mg base CX0 8 "_law_odd_text" ["_law_pen_here"] (spStr 100 250 50000)
  law_far_number : Df P w K mg base CX0 4 "_law_far_number" ["_law_pen_here"] spFar
  law_entry_due : Df P w K mg base CX0 2 "_law_entry_due" ["_law_text"] spDue
  law_read : Df P w K mg base CX0 6 "_law_read" ["_law_text"] (spRead K)
  law_later_right : Df P w K mg base CX0 10 "_law_later_right" ["_law_entry", "_law_due", "_law_many"] (spLR K)
  law_unlike_right : Df P w K mg base CX0 10 "_law_unlike_right" ["_law_entry", "_law_due"] (spUR K)
theorem scLaw : FnScope ["_law_script", "_law_pen_here", "_law_lap", "_law_text", "_law_some", "_law_due", "_law_odd"] ["_law_script"] (defScope (top 35)) := ⟨rfl, rfl, rfl, by decide +kernel, rfl, by decide +kernel, by decide +kernel⟩
theorem ok_law {CB : Addr} (F : FnG K "law" 35 f fd) (T : Tx K mg) (D : DLaw P w K mg base CB) : FnOk P w K mg base CX0 12 f fd ["_law_script"] (spLaw K) := by
  refine F.ok scLaw (fun vs H Q E h => ?_) (fun cdv A outer s H vs Q E hr h => ?_)
  · obtain ⟨a, ns, rfl, _⟩ := h
    rfl
  · obtain ⟨sa, ns, rfl, hs, hz, k⟩ := h
    obtain ⟨fE, fdE, GE, ie, fe, bE⟩ := D.eq.ok
    obtain ⟨fdI, GI, _, ds, rE, Bent⟩ := D.ini
    refine ⟨_, PSs.nox (pss_cons (ps_set (i := 1) scLaw.nd rfl (Or.inl rfl) (pe_cd D.law_pen (hr.mono (by decide)) pass0 (pa_cons (pv 0) pa_nil)))
        (pss_cons (ps_for PassesOwn.never rfl (pi_range1 (by rfl) T.range (pa_cons pe_int pa_nil)) (pg_name (i := 2) scLaw.nd rfl (Or.inl rfl)) (pss_cons (ps_set (i := 3) scLaw.nd rfl (Or.inl rfl) (pe_cd D.law_right_text (hr.mono (by decide)) pass0 (pa_cons (pv 1) pa_nil)))
        (pss_one (ps_for PassesOwn.never rfl (pi_tup (pe_tup (pa_cons (pv 3) (pa_cons (pe_cd D.law_bent (hr.mono (by decide)) pass0 (pa_cons (pv 1) (pa_cons (pv 3) pa_nil))) (pa_cons (pe_cd D.law_odd_text (hr.mono (by decide)) pass0 (pa_cons (pv 1) pa_nil)) pa_nil))))) (pg_name (i := 4) scLaw.nd rfl (Or.inl rfl)) (pss_cons (ps_set (i := 5) scLaw.nd rfl (Or.inl rfl) (pe_cd D.law_entry_due (hr.mono (by decide)) pass0 (pa_cons (pv 4) pa_nil)))
        (pss_cons (ps_if (pt_cmpR (op_neT hr.units0) (pe_cd D.law_read (hr.mono (by decide)) pass0 (pa_cons (pv 4) pa_nil)) (pv 5) (nomark _)) (pss_one (ps_ret pe_bl)) pss_nil)
        (pss_cons (ps_if (PW.pt (pw_and (pt_cmpR op_ne (pe_ix ix_tup (pv 5) pe_int (fun _ _ => rfl)) pe_str (nomark _)) (pw_and1 (pt_not (pt_val (pe_cd D.law_later_right (hr.mono (by decide)) pass0 (pa_cons (pe_make (E := fun _ _ _ => False) D.mkE GI (hr.mono (by decide)) rfl T.Entry Bent rE passF (pa_cons (pv 4) pa_nil)) (pa_cons (pv 5) (pa_cons (pe_cd D.law_far_number (hr.mono (by decide)) pass0 (pa_cons (pv 1) pa_nil)) pa_nil))))))))) (pss_one (ps_ret pe_bl)) pss_nil)
        (pss_one (ps_if (PW.pt (pw_and (pt_cmpR op_ne (pe_ix ix_tup (pv 5) pe_int (fun _ _ => rfl)) pe_str (nomark _)) (pw_and1 (pt_not (pt_val (pe_cd D.law_unlike_right (hr.mono (by decide)) pass0 (pa_cons (pe_make (E := fun _ _ _ => False) D.mkE GI (hr.mono (by decide)) rfl T.Entry Bent rE passF (pa_cons (pv 4) pa_nil)) (pa_cons (pv 5) pa_nil)))))))) (pss_one (ps_ret pe_bl)) pss_nil)))))))))
        (pss_cons (ps_set (i := 6) scLaw.nd rfl (Or.inl rfl) (pe_cd D.law_pick (hr.mono (by decide)) pass0 (pa_cons (pv 1) (pa_cons (pe_lst (pa_cons pe_non (pa_cons pe_int (pa_cons pe_bl (pa_cons (pe_lst (pa_cons pe_str pa_nil)) (pa_cons (pe_tup (pa_cons pe_str pa_nil)) (pa_cons (pe_op op_pow pe_int pe_int) pa_nil))))))) pa_nil))))
        (pss_cons (ps_if (PW.pt (pw_or (pt_cmpR (op_neT hr.units0) (pe_cd D.law_read (hr.mono (by decide)) pass0 (pa_cons (pv 6) pa_nil)) (pe_tup (pa_cons pe_str (pa_cons pe_int (pa_cons pe_bl (pa_cons pe_bl pa_nil))))) (nomark _)) (pw_or1 (pt_cmpR (op_eqO GE (hr.mono (by decide)) ie fe D.ox.ss bE pass0) (pe_make (E := fun _ _ _ => False) D.mkE GI (hr.mono (by decide)) rfl T.Entry Bent rE passF (pa_cons pe_str pa_nil)) pe_str (nomark _))))) (pss_one (ps_ret pe_bl)) pss_nil)
        (pss_one (ps_ret (pe_and (pe_cmpR (op_eqO GE (hr.mono (by decide)) ie fe D.ox.ss bE pass0) (pe_make (E := fun _ _ _ => False) D.mkE GI (hr.mono (by decide)) rfl T.Entry Bent rE passF (pa_cons pe_str pa_nil)) (pe_make (E := fun _ _ _ => False) D.mkE GI (hr.mono (by decide)) rfl T.Entry Bent rE passF (pa_cons pe_str pa_nil)) (nomark _)) (pe_one (pe_not (pe_cmpR (op_eqO GE (hr.mono (by decide)) ie fe D.ox.ss bE pass0) (pe_make (E := fun _ _ _ => False) D.mkE GI (hr.mono (by decide)) rfl T.Entry Bent rE passF (pa_cons pe_str pa_nil)) (pe_make (E := fun _ _ _ => False) D.mkE GI (hr.mono (by decide)) rfl T.Entry Bent rE passF (pa_cons pe_str pa_nil)) (nomark _))))))))))), ?_⟩
    refine ⟨_, rfl, sa, ns, rfl, hs, hz, fun H1 d l s1 nd nl p1 => ?_⟩
    refine ⟨5, rfl, by decide, by decide, for_range (lo := 0) (n := 5)
      (fun i σ H' => ∃ (a' : Int) (x2 x3 x4 x5 x6 : Option V), σ = [some (.ref sa), some (.ref d), x2, x3, x4, x5, x6] ∧ Pen H' d l a' ∧ a' ≤ 1000 * i)
      ⟨0, none, none, none, none, none, rfl, p1, Int.le_refl 0⟩ ?_ ?_⟩
    · rintro i σ H2 hi ⟨a', x2, x3, x4, x5, x6, rfl, p2, g0⟩
      refine ⟨_, rfl, d, l, a', rfl, p2, by omega, fun z hz1 a1 H3 g1 g2 p3 b3 => ?_⟩
      refine ⟨_, rfl, _, rfl, _, rfl, d, l, a1, z, rfl, p3, by omega, hz1, fun z2 hz2 a2 H4 g3 g4 p4 b4 => ?_⟩
      refine ⟨_, rfl, d, l, a2, rfl, p4, by omega, fun z3 hz3 a3 H5 g5 g6 p5 b5 => ?_⟩
      refine ⟨(by show 3 ≤ sizeLine; decide), fun t ht => ?_⟩
      have td : t ≠ d := p5.ne ht
      refine ⟨t, rfl, ⟨_, SqT.of upd_same⟩, for_tup (K := K) (a := t) (xs := [.str z, .str z2, .str z3])
        (fun j σ H' => ∃ (c : Int) (y2 y3 y4 y5 y6 : Option V), σ = [some (.ref sa), some (.ref d), y2, y3, y4, y5, y6] ∧ Pen H' d l c ∧ c ≤ a3 + 100 * j ∧ H' t = some (.tup [.str z, .str z2, .str z3]))
        ⟨a3, _, _, _, _, _, rfl, p5.same (same_upd ht), by omega, upd_same⟩ (fun j σ H' hj hP => by
          obtain ⟨_, _, _, _, _, _, _, _, _, h⟩ := hP
          exact SqT.of h) ?_ ?_⟩
      · rintro j x σ H6 hx ⟨c, y2, y3, y4, y5, y6, rfl, p6, g7, h6⟩
        obtain ⟨y, rfl, ly, hj⟩ : ∃ y : Str, x = .str y ∧ y.length ≤ 600 ∧ j < 3 := by
          match j, hx with
          | 0, hx => cases hx; exact ⟨z, rfl, by omega, by decide⟩
          | 1, hx => cases hx; exact ⟨z2, rfl, by omega, by decide⟩
          | 2, hx => cases hx; exact ⟨z3, rfl, by omega, by decide⟩
          | n + 3, hx => simp at hx
        refine ⟨_, rfl, y, rfl, ly, fun r hd p H7 s7 hp => ?_⟩
        refine ⟨_, rfl, .str y, rfl, .inl ⟨y, rfl, ly, fun r' hd' p2 H8 s8 hp2 => ?_⟩⟩
        obtain rfl := due_uniq hd hd'
        have hp8 := s8 _ _ hp
        refine ⟨_, rfl, p2, p, _, rfl, rfl, SqT.of hp2, SqT.of hp8, due_flat r, _, rfl, ifN rfl ?_⟩
        have p8 := p6.same (s7.trans s8)
        have h8 := s8 _ _ (s7 _ _ h6)
        clear hd' hp2 hp
        rcases hd with ⟨kd, a, b, o, rd, rfl⟩ | ⟨no, rfl⟩
        rotate_left
        · refine ⟨_, rfl, p, _, _, _, rfl, rfl, SqT.of hp8, atI_nat (j := 0) rfl, rfl, _, rfl, ifN (by simp) ?_⟩
          refine ⟨_, rfl, p, _, _, _, rfl, rfl, SqT.of hp8, atI_nat (j := 0) rfl, rfl, _, rfl, ifN (by simp) ?_⟩
          exact ⟨c, _, _, _, _, _, rfl, p8, by omega, h8⟩
        · have ey := rd.text
          subst ey
          have okR : (⟨kd, a, b, o⟩ : Row).Ok := ⟨⟨rd.kin, rd.zo, rd.le, rd.nm⟩, fits_lt rd.fa, fits_lt rd.fb⟩
          have nr : (!decide (V.str (mkT kd a b o) = V.str "refused")) = true := by
            rw [decide_eq_false fun e => not_refused _ _ _ _ (V.str.inj e)]
            rfl
          have pd : p ≠ d := fun e => by
            obtain ⟨cs, bb, e1, _⟩ := p8
            rw [e, e1] at hp8
            cases hp8
          refine ⟨_, rfl, p, _, _, _, rfl, rfl, SqT.of hp8, atI_nat (j := 0) rfl, rfl, _, rfl, ifB nr ?_⟩
          refine ⟨_, rfl, fun e de ne nde ned => ⟨e, de, .str _, some 30, rfl, upd_same, .inl ⟨_, rfl, ly, fun k' a' b' o' rd' H9 kp en => ⟨rfl, ?_⟩, fun no => absurd rd (no _ _ _ _)⟩⟩⟩
          obtain ⟨s9, de9, he9⟩ := made (r := ⟨kd, a, b, o⟩) okR ne nde rd' kp en
          have p9 := p8.same s9
          have hp9 := s9 _ _ hp8
          have h9 := s9 _ _ h8
          have ed : e ≠ d := fun z => by
            obtain ⟨cs, bb, e1, _⟩ := p9
            rw [z, e1] at he9
            cases he9
          refine ⟨_, rfl, _, rfl, d, l, c, rfl, p9, by omega, fun n hn c1 H10 g8 g9 p10 b10 => ?_⟩
          refine ⟨e, p, kd, a, b, o, n, rfl, ⟨de9, b10 _ _ he9 ed⟩, okR.v, b10 _ _ hp9 pd, okR.la, okR.lb, hn, fun H11 s11 => ?_⟩
          refine ⟨_, rfl, ifN rfl ?_⟩
          have p11 := p10.same s11
          have hp11 := s11 _ _ (b10 _ _ hp9 pd)
          have h11 := s11 _ _ (b10 _ _ h9 td)
          refine ⟨_, rfl, p, _, _, _, rfl, rfl, SqT.of hp11, atI_nat (j := 0) rfl, rfl, _, rfl, ifB nr ?_⟩
          refine ⟨_, rfl, fun e2 de2 ne2 nde2 ned2 => ⟨e2, de2, .str _, some 30, rfl, upd_same, .inl ⟨_, rfl, ly, fun k' a' b' o' rd' H12 kp en => ⟨rfl, ?_⟩, fun no => absurd rd (no _ _ _ _)⟩⟩⟩
          obtain ⟨s12, de12, he12⟩ := made (r := ⟨kd, a, b, o⟩) okR ne2 nde2 rd' kp en
          refine ⟨_, rfl, e2, p, ⟨kd, a, b, o⟩, rfl, ⟨de12, he12⟩, okR, s12 _ _ hp11, fun H13 s13 => ?_⟩
          refine ⟨_, rfl, ifN rfl ?_⟩
          exact ⟨c1, _, _, _, _, _, rfl, p11.same (s12.trans s13), by omega, s13 _ _ (s12 _ _ h11)⟩
      · rintro σ H6 ⟨c, y2, y3, y4, y5, y6, rfl, p6, g7, h6⟩
        have g7' : c ≤ a3 + 100 * 3 := g7
        exact ⟨c, _, _, _, _, _, rfl, p6, by omega⟩
    · rintro σ H2 ⟨a', x2, x3, x4, x5, x6, rfl, p2, g0⟩
      have g0' : a' ≤ 1000 * 5 := g0
      dsimp only
      refine ⟨_, rfl, (by show 1 ≤ sizeLine; decide), fun u hu => ⟨(by show 1 ≤ sizeLine; decide), fun v hv => ⟨10, 40, rfl, rfl, ⟨by decide, by decide, by decide⟩, (by show 6 ≤ sizeLine; decide), fun t ht => ?_⟩⟩⟩
      have su := same_upd (o := .lst [.str "day 1 to 2"]) hu
      have sv := same_upd (o := .tup [.str "day 1 to 2"]) hv
      have st := same_upd (o := .lst [.non, .int 5, .bl true, .ref u, .ref v, .int (10 ^ (40 : Int).toNat)]) ht
      have lu := st _ _ (sv _ _ (upd_same (H := H2) (a := u) (o := .lst [.str "day 1 to 2"])))
      have lv := st _ _ (upd_same (H := upd H2 u (.lst [.str "day 1 to 2"])) (a := v) (o := .tup [.str "day 1 to 2"]))
      have lt := upd_same (H := upd (upd H2 u (.lst [.str "day 1 to 2"])) v (.tup [.str "day 1 to 2"])) (a := t) (o := .lst [.non, .int 5, .bl true, .ref u, .ref v, .int (10 ^ (40 : Int).toNat)])
      have p3 := p2.same (su.trans (sv.trans st))
      generalize upd (upd (upd H2 u (.lst [.str "day 1 to 2"])) v (.tup [.str "day 1 to 2"])) t (.lst [.non, .int 5, .bl true, .ref u, .ref v, .int (10 ^ (40 : Int).toNat)]) = H3 at lu lv lt p3 ⊢
      have nd3 : ∀ c o, H3 c = some o → (∀ kvs, o ≠ .dK kvs) → c ≠ d := fun c o e n z => by
        obtain ⟨cs, bb, e1, _⟩ := p3
        rw [z, e1] at e
        exact n _ (Option.some.inj e).symm
      refine ⟨d, l, a', _, rfl, p3, by omega, .inl ⟨t, _, rfl, nd3 _ _ lt (fun _ h => by cases h), lt, List.cons_ne_nil _ _, (by show 6 ≤ 1000; decide), fun x a2 H4 hx g1 g2 p4 b4 => ?_⟩⟩
      have lu4 := b4 _ _ lu (nd3 _ _ lu fun _ h => by cases h)
      have lv4 := b4 _ _ lv (nd3 _ _ lv fun _ h => by cases h)
      have nt : ∀ H', Same H4 H' → NoText K H' x := fun H' s' => by
        simp only [List.mem_cons, List.not_mem_nil, or_false] at hx
        rcases hx with rfl | rfl | rfl | rfl | rfl | rfl
        · exact ⟨_, .base .non, kit_ty (by decide +kernel)⟩
        · exact ⟨_, .base (.int _), kit_ty (by decide +kernel)⟩
        · exact ⟨_, .base (.bl _), kit_ty (by decide +kernel)⟩
        · exact ⟨_, .base (.lst (s' _ _ lu4)), kit_ty (by decide +kernel)⟩
        · exact ⟨_, .base (.tup (s' _ _ lv4)), kit_ty (by decide +kernel)⟩
        · exact ⟨_, .base (.int _), kit_ty (by decide +kernel)⟩
      have rD : RdW (some 30) (words ("day 1 to 2" : Str)) "day" 1 2 none := by
        have e := day_ok.rd
        rw [day_t] at e
        exact e
      have rF : RdW (some 30) (words ("float 1 to 2" : Str)) "float" 1 2 none := by
        have e := flo_ok.rd
        rw [flo_t] at e
        exact e
      refine ⟨_, rfl, x, rfl, .inr ⟨nt, fun p H5 s5 hp => ?_⟩⟩
      refine ⟨(by show 4 ≤ sizeLine; decide), fun p2' hp2 => ⟨p, p2', dueV none, rfl, rfl, SqT.of (same_upd hp2 _ _ hp), SqT.of upd_same, rfl, _, rfl, ifN rfl ?_⟩⟩
      refine fun e1 d1 n1 m1 ne1 => ⟨e1, d1, .str _, some 30, rfl, upd_same, .inl ⟨_, rfl, (by decide +kernel), fun k' a' b' o' rd H6 kp en => ⟨rfl, ?_⟩, fun no => absurd rD (no _ _ _ _)⟩⟩
      obtain ⟨s6, f1, h1⟩ := made_t day_ok day_t n1 m1 rd kp en
      refine ⟨e1, f1, _, rfl, h1, .inr ⟨_, rfl⟩, e1, _, _, _, _, _, _, rfl, ⟨f1, h1⟩, .inr ⟨_, .base (.str _), D.ox.ks, _, rfl, ifN rfl ?_⟩⟩
      refine fun e2 d2 n2 m2 ne2 => ⟨e2, d2, .str _, some 30, rfl, upd_same, .inl ⟨_, rfl, (by decide +kernel), fun k' a' b' o' rd H7 kp en => ⟨rfl, ?_⟩, fun no => absurd rD (no _ _ _ _)⟩⟩
      obtain ⟨s7, f2, h2⟩ := made_t day_ok day_t n2 m2 rd kp en
      refine fun e3 d3 n3 m3 ne3 => ⟨e3, d3, .str _, some 30, rfl, upd_same, .inl ⟨_, rfl, (by decide +kernel), fun k' a' b' o' rd H8 kp en => ⟨rfl, ?_⟩, fun no => absurd rD (no _ _ _ _)⟩⟩
      obtain ⟨s8, f3, h3⟩ := made_t day_ok day_t n3 m3 rd kp en
      have h28 := s8 _ _ h2
      refine ⟨e2, f2, _, rfl, h28, .inl ⟨e3, f3, _, rfl, h3⟩, e2, _, _, _, _, _, _, rfl, ⟨f2, h28⟩, .inl ⟨e3, _, _, _, _, _, rfl, ⟨f3, h3⟩, _, rfl, ifB (decide_eq_true rfl) ?_⟩⟩
      refine fun e4 d4 n4 m4 ne4 => ⟨e4, d4, .str _, some 30, rfl, upd_same, .inl ⟨_, rfl, (by decide +kernel), fun k' a' b' o' rd H9 kp en => ⟨rfl, ?_⟩, fun no => absurd rD (no _ _ _ _)⟩⟩
      obtain ⟨s9, f4, h4⟩ := made_t day_ok day_t n4 m4 rd kp en
      refine fun e5 d5 n5 m5 ne5 => ⟨e5, d5, .str _, some 30, rfl, upd_same, .inl ⟨_, rfl, (by decide +kernel), fun k' a' b' o' rd H10 kp en => ⟨rfl, ?_⟩, fun no => absurd rF (no _ _ _ _)⟩⟩
      obtain ⟨s10, f5, h5⟩ := made_t flo_ok flo_t n5 m5 rd kp en
      have h410 := s10 _ _ h4
      refine ⟨e4, f4, _, rfl, h410, .inl ⟨e5, f5, _, rfl, h5⟩, e4, _, _, _, _, _, _, rfl, ⟨f4, h410⟩, .inl ⟨e5, _, _, _, _, _, rfl, ⟨f5, h5⟩, _, rfl, ?_⟩⟩
      rw [decide_eq_false (show ¬ ("day 1 to 2" : Str) = "float 1 to 2" by decide +kernel)]
      exact k _
end
end Wd

set_option maxHeartbeats 4000000
namespace Wd
open PySem PySem.Spec PyProof.Rows L2 Wt TL NumText
section
variable {P : Program} {w : World} {K : PySem.W.Frag} {h : Heap} {mg : Str → Option Value} {base : Heap}
theorem df_of {CX : CXT} {x : Str} {st : Stmt} {f : Addr} {fd : FuncData} {ps : List Str} {k : Nat} {sp : Sp} (F : FunD K x x (defArgs st) (defBody st) (defScope st) [] [] f fd) (gl : mg x = some (.ref f)) (G : FnOk P w K mg base CX k f fd ps sp)
    (b : Binds K fd ps []) : Df P w K mg base CX k x ps sp := ⟨f, fd, G, gl, F.kp, b⟩
theorem facts {f : Addr} (X : K.In h) (G : h.Ns mainGlobals mg) (hfa : mg ("law" : Str) = some (.ref f)) (c : SaysT q fn K) :
    ∃ fd : FuncData, (∀ (s : Shared) (v : Value), BindsTo s fd ⟨[v], []⟩ [("_law_script", v)]) ∧ ∀ base : Heap, K.In base → base.Ns mainGlobals mg → FnOk P w K mg base CX0 12 f fd ["_law_script"] (spLaw K) := by
  obtain ⟨t1, t⟩ := He.ba c.test
  obtain ⟨t2, t⟩ := He.ba t
  obtain ⟨t3, t⟩ := He.ba t
  obtain ⟨t4, t5⟩ := He.ba t
  obtain ⟨r1, r⟩ := He.ba t3
  obtain ⟨r2, r3⟩ := He.ba r
  obtain ⟨c1, c2⟩ := He.ba t5
  obtain ⟨i1, i⟩ := He.ba t2
  obtain ⟨i2, i⟩ := He.ba i
  obtain ⟨i3, i4⟩ := He.ba i
  obtain ⟨n1, n⟩ := He.ba t4
  obtain ⟨n2, n⟩ := He.ba n
  obtain ⟨n3, n⟩ := He.ba n
  obtain ⟨n4, n⟩ := He.ba n
  obtain ⟨n5, n⟩ := He.ba n
  obtain ⟨n6, n⟩ := He.ba n
  obtain ⟨n7, n⟩ := He.ba n
  obtain ⟨n8, n⟩ := He.ba n
  obtain ⟨n9, n⟩ := He.ba n
  obtain ⟨n10, n11⟩ := He.ba n
  have fa : ∀ (i : Nat) {u : He.Fa}, fas[i]? = some u → u.ok K = true := fun i u z => List.all_eq_true.mp t1 u (List.mem_of_getElem? z)
  obtain ⟨d0, F0⟩ := c.def_ 0 rfl
  have F0 : FnG K "is_name" 6 (He.ga K "is_name") d0 := F0
  obtain ⟨d1, F1⟩ := c.def_ 1 rfl
  have F1 : FunD K "number_in" "number_in" (defArgs (top 7)) (defBody (top 7)) (defScope (top 7)) [.int 30] [] (He.ga K "number_in") d1 := F1
  obtain ⟨d2, F2⟩ := c.def_ 2 rfl
  have F2 : FnG K "entry_of" 12 (He.ga K "entry_of") d2 := F2
  obtain ⟨d3, F3⟩ := c.def_ 3 rfl
  have F3 : FnG K "is_kind" 13 (He.ga K "is_kind") d3 := F3
  obtain ⟨d4, F4⟩ := c.def_ 4 rfl
  have F4 : FnG K "_later" 14 (He.ga K "_later") d4 := F4
  obtain ⟨d5, F5⟩ := c.def_ 5 rfl
  have F5 : FnG K "_parts" 15 (He.ga K "_parts") d5 := F5
  obtain ⟨d6, F6⟩ := c.def_ 6 rfl
  have F6 : FnG K "_law_pen" 17 (He.ga K "_law_pen") d6 := F6
  obtain ⟨d7, F7⟩ := c.def_ 7 rfl
  have F7 : FnG K "_law_draw" 18 (He.ga K "_law_draw") d7 := F7
  obtain ⟨d8, F8⟩ := c.def_ 8 rfl
  have F8 : FnG K "_law_pick" 19 (He.ga K "_law_pick") d8 := F8
  obtain ⟨d9, F9⟩ := c.def_ 9 rfl
  have F9 : FnG K "_law_big" 20 (He.ga K "_law_big") d9 := F9
  obtain ⟨d10, F10⟩ := c.def_ 10 rfl
  have F10 : FnG K "_law_entry_text" 21 (He.ga K "_law_entry_text") d10 := F10
  obtain ⟨d11, F11⟩ := c.def_ 11 rfl
  have F11 : FnG K "_law_is_name" 22 (He.ga K "_law_is_name") d11 := F11
  obtain ⟨d12, F12⟩ := c.def_ 12 rfl
  have F12 : FnG K "_law_number" 23 (He.ga K "_law_number") d12 := F12
  obtain ⟨d13, F13⟩ := c.def_ 13 rfl
  have F13 : FnG K "_law_whole" 24 (He.ga K "_law_whole") d13 := F13
  obtain ⟨d14, F14⟩ := c.def_ 14 rfl
  have F14 : FnG K "_law_bent" 25 (He.ga K "_law_bent") d14 := F14
  obtain ⟨d15, F15⟩ := c.def_ 15 rfl
  have F15 : FnG K "_law_any_name" 26 (He.ga K "_law_any_name") d15 := F15
  obtain ⟨d16, F16⟩ := c.def_ 16 rfl
  have F16 : FnG K "_law_far_number" 27 (He.ga K "_law_far_number") d16 := F16
  obtain ⟨d17, F17⟩ := c.def_ 17 rfl
  have F17 : FnG K "_law_read" 28 (He.ga K "_law_read") d17 := F17
  obtain ⟨d18, F18⟩ := c.def_ 18 rfl
  have F18 : FnG K "_law_entry_due" 29 (He.ga K "_law_entry_due") d18 := F18
  obtain ⟨d19, F19⟩ := c.def_ 19 rfl
  have F19 : FnG K "_law_right_text" 30 (He.ga K "_law_right_text") d19 := F19
  obtain ⟨d20, F20⟩ := c.def_ 20 rfl
  have F20 : FnG K "_law_odd_number" 31 (He.ga K "_law_odd_number") d20 := F20
  obtain ⟨d21, F21⟩ := c.def_ 21 rfl
  have F21 : FnG K "_law_odd_text" 32 (He.ga K "_law_odd_text") d21 := F21
  obtain ⟨d22, F22⟩ := c.def_ 22 rfl
  have F22 : FnG K "_law_later_right" 33 (He.ga K "_law_later_right") d22 := F22
  obtain ⟨d23, F23⟩ := c.def_ 23 rfl
  have F23 : FnG K "_law_unlike_right" 34 (He.ga K "_law_unlike_right") d23 := F23
  obtain ⟨d24, F24⟩ := c.def_ 24 rfl
  have F24 : FnG K "law" 35 (He.ga K "law") d24 := F24
  obtain ⟨d25, F25⟩ := c.def_ 25 rfl
  have F25 : FunD K "__init__" "Entry.__init__" (defArgs (inClass (top 11) 0)) (defBody (inClass (top 11) 0)) (defScope (inClass (top 11) 0)) [] [("digits", .int 30)] (He.ma K (He.ga K "Entry") "__init__") d25 := F25
  obtain ⟨d26, F26⟩ := c.def_ 26 rfl
  have F26 : FunD K "__eq__" "Entry.__eq__" (defArgs (inClass (top 11) 1)) (defBody (inClass (top 11) 1)) (defScope (inClass (top 11) 1)) [] [] (He.ma K (He.ga K "Entry") "__eq__") d26 := F26
  obtain ⟨d27, F27⟩ := c.def_ 27 rfl
  have F27 : FunD K "__add__" "Entry.__add__" (defArgs (inClass (top 11) 2)) (defBody (inClass (top 11) 2)) (defScope (inClass (top 11) 2)) [] [] (He.ma K (He.ga K "Entry") "__add__") d27 := F27
  obtain ⟨d28, F28⟩ := c.def_ 28 rfl
  have F28 : FunD K "__sub__" "Entry.__sub__" (defArgs (inClass (top 11) 3)) (defBody (inClass (top 11) 3)) (defScope (inClass (top 11) 3)) [] [] (He.ma K (He.ga K "Entry") "__sub__") d28 := F28
  obtain ⟨d29, F29⟩ := c.def_ 29 rfl
  have e := hfa.symm.trans (He.glo_ok X G (fa 24 (u := .glo "law") rfl))
  cases e
  have bl := FunD.bindsA (ps := ["_law_script"]) F24 fun _ _ _ _ _ _ us hl => match us, hl with | [_], _ => rfl
  refine ⟨d24, fun s v => bl s [v] rfl, fun base _ _ => ?_⟩
  have TP : TxtP mg := ⟨He.free_ok X G (fa 31 (u := .free "list") rfl), He.free_ok X G (fa 32 (u := .free "int") rfl), He.free_ok X G (fa 33 (u := .free "len") rfl)⟩
  have T : Tx K mg := ⟨TP, He.free_ok X G (fa 34 (u := .free "str") rfl), He.free_ok X G (fa 36 (u := .free "isinstance") rfl), He.free_ok X G (fa 35 (u := .free "range") rfl), He.free_ok X G (fa 37 (u := .free "bool") rfl), He.free_ok X G (fa 38 (u := .free "sorted") rfl), He.free_ok X G (fa 39 (u := .free "all") rfl), He.free_ok X G (fa 40 (u := .free "any") rfl), He.free_ok X G (fa 41 (u := .free "abs") rfl), He.free_ok X G (fa 42 (u := .free "ValueError") rfl), He.glo_ok X G (fa 28 (u := .glo "KINDS") rfl), fun H => He.tupB_ok n5 H, He.int_ok X G (fa 29 (u := .int "DAY" 1440) rfl), He.int_ok X G (fa 30 (u := .int "MOST_LETTERS" 12) rfl), He.cls_ok (fa 43 (u := .cls "Entry") rfl), He.noat_ok (fa 48 (u := .noat "Entry" "text") rfl), He.noat_ok (fa 49 (u := .noat "Entry" "kind") rfl), He.noat_ok (fa 50 (u := .noat "Entry" "first") rfl), He.noat_ok (fa 51 (u := .noat "Entry" "last") rfl), He.noat_ok (fa 52 (u := .noat "Entry" "zone") rfl), He.glo_ok X G (fa 25 (u := .glo "Entry") rfl), He.eqO_ok n2, He.eqO_ok c1, of_decide_eq_true c2, of_decide_eq_true n3, of_decide_eq_true n4⟩
  have ec : ErrC K (He.ga K "BadText") := errC_of r1 t5
  have ox : OexC K (He.ga K "BadText") := oexC_of ec.be i1
  have OB := ok_BadText (P := P) (w := w) (mg := mg) (base := base) F29 ox (He.eqO_ok i2)
  have B : Bt P w K mg base (He.ga K "BadText") := ⟨He.glo_ok X G (fa 27 (u := .glo "BadText") rfl), ox, ec, He.eqO_ok i2, _, d29, He.eqO_ok i3, of_decide_eq_true i4, OB.1, OB.2⟩
  have Bnum : Binds K d1 ["word", "digits"] [] := by
    obtain ⟨ds, r, b⟩ := F1.binds1 (ps := ["word", "digits"]) 2 1 (List.cons_ne_nil _ _) rfl fun _ _ _ _ _ _ _ us its h1 h2 => match us, its, h1, h2 with | [_, _], [_], _, _ => ⟨_, rfl, rfl⟩
    cases r
    exact b
  have Dparts : DParts P w K mg base := ⟨⟨_, d1, ok_num F1 T, He.glo_ok X G (fa 1 (u := .glo "number_in") rfl), F1.kp, Bnum⟩, df_of F3 (He.glo_ok X G (fa 3 (u := .glo "is_kind") rfl)) (ok_isk F3 T) (F3.bindsN fun _ _ _ _ _ _ us hl => match us, hl with | [_], _ => rfl), df_of F0 (He.glo_ok X G (fa 0 (u := .glo "is_name") rfl)) (ok_nam F0 T) (F0.bindsN fun _ _ _ _ _ _ us hl => match us, hl with | [_], _ => rfl)⟩
  have Dent : DEnt P w K mg base (He.ga K "BadText") := ⟨df_of F5 (He.glo_ok X G (fa 5 (u := .glo "_parts") rfl)) (ok_parts F5 T Dparts B) (F5.bindsN fun _ _ _ _ _ _ us hl => match us, hl with | [_, _], _ => rfl)⟩
  have Bent : ∃ ds, Vals [V.int 30] ds ∧ Binds K d25 ["self", "text", "digits"] ds :=
    F25.binds0 (ps := ["self", "text", "digits"]) 2 (List.cons_ne_nil _ _) rfl fun _ _ _ _ _ _ us ks h1 h2 => match us, ks, h1, h2 with | [_, _], [_], _, _ => ⟨_, _, _, _, _, _, rfl, rfl, rfl⟩
  have Kent : ∃ mv : List Value, KBn K d25 ["self", "text", "digits"] 2 ["digits"] (fun us ws => us ++ (mv ++ ws)) (fun vs zs => vs ++ ([] ++ zs)) :=
    F25.kbinds0 (ps := ["self", "text", "digits"]) (n := 2) (ks := ["digits"]) (ms := []) (g := fun us mv ws => us ++ (mv ++ ws)) (List.cons_ne_nil _ _) (fun q hq => absurd hq List.not_mem_nil)
      (fun r1 r2 r3 => r1.append (r2.append r3)) fun _ _ _ _ _ _ us mv ws h1 h2 h3 => match us, mv, ws, h1, h2, h3 with | [_, _], [], [_], _, _, _ => rfl
  have Dof : DOf P w K mg base (He.ga K "BadText") := ⟨He.mkr_ok (fa 44 (u := .mkr "Entry") rfl), d25, ok_ent F25 T Dent B, Kent, Bent⟩
  have Dlat : DLater P w K mg base := ⟨df_of F2 (He.glo_ok X G (fa 2 (u := .glo "entry_of") rfl)) (ok_of F2 T Dof) (F2.bindsN fun _ _ _ _ _ _ us hl => match us, hl with | [_, _, _, _], _ => rfl)⟩
  have Glat := (df_of F4 (He.glo_ok X G (fa 4 (u := .glo "_later") rfl)) (ok_later F4 T Dlat) (F4.bindsN fun _ _ _ _ _ _ us hl => match us, hl with | [_, _], _ => rfl) : Df P w K mg base CX0 7 "_later" ["entry", "many"] (spLater (He.ga K "Entry")))
  have Madd : Me P w K mg base 8 "__add__" ["self", "many"] (sp_add (He.ga K "Entry")) := ⟨⟨_, d27, ok_add F27 ⟨Glat⟩, He.eqO_ok (He.ba (fa 46 (u := .meth "Entry" "__add__") rfl)).1, (He.meth_ok (fa 46 (u := .meth "Entry" "__add__") rfl)).fn, (F27.bindsN fun _ _ _ _ _ _ us hl => match us, hl with | [_, _], _ => rfl)⟩⟩
  have Msub : Me P w K mg base 8 "__sub__" ["self", "many"] (sp_sub (He.ga K "Entry")) := ⟨⟨_, d28, ok_sub F28 ⟨Glat⟩, He.eqO_ok (He.ba (fa 47 (u := .meth "Entry" "__sub__") rfl)).1, (He.meth_ok (fa 47 (u := .meth "Entry" "__sub__") rfl)).fn, (F28.bindsN fun _ _ _ _ _ _ us hl => match us, hl with | [_, _], _ => rfl)⟩⟩
  have Meq : Me P w K mg base 1 "__eq__" ["self", "other"] (spEq (He.ga K "Entry") K) := ⟨⟨_, d26, ok_eq F26 T, He.eqO_ok (He.ba (fa 45 (u := .meth "Entry" "__eq__") rfl)).1, (He.meth_ok (fa 45 (u := .meth "Entry" "__eq__") rfl)).fn, (F26.bindsN fun _ _ _ _ _ _ us hl => match us, hl with | [_, _], _ => rfl)⟩⟩
  have O : Ox K := ⟨He.eqO_ok n1, n8, He.eqO_ok n9, He.eqO_ok n10, of_decide_eq_true n11, of_decide_eq_true n7, of_decide_eq_true n6⟩
  have Gdraw := (df_of F7 (He.glo_ok X G (fa 7 (u := .glo "_law_draw") rfl)) (ok_draw F7 TP) (F7.bindsN fun _ _ _ _ _ _ us hl => match us, hl with | [_, _], _ => rfl) : Df P w K mg base CX0 1 "_law_draw" ["_law_pen_here", "_law_many"] spDraw)
  have Ddraw : DDraw P w K mg base := ⟨Gdraw, df_of F8 (He.glo_ok X G (fa 8 (u := .glo "_law_pick") rfl)) (ok_pick F8 TP Gdraw) (F8.bindsN fun _ _ _ _ _ _ us hl => match us, hl with | [_, _], _ => rfl)⟩
  have Dbig : DBig P w K mg base := ⟨Ddraw, df_of F9 (He.glo_ok X G (fa 9 (u := .glo "_law_big") rfl)) (ok_big F9 T Ddraw) (F9.bindsN fun _ _ _ _ _ _ us hl => match us, hl with | [_, _], _ => rfl)⟩
  have Gtxt := (df_of F10 (He.glo_ok X G (fa 10 (u := .glo "_law_entry_text") rfl)) (ok_txt F10 T) (F10.bindsN fun _ _ _ _ _ _ us hl => match us, hl with | [_], _ => rfl) : Df P w K mg base CX0 1 "_law_entry_text" ["_law_entry"] (spTxt K))
  have Gfar := (df_of F16 (He.glo_ok X G (fa 16 (u := .glo "_law_far_number") rfl)) (ok_far F16 T Dbig) (F16.bindsN fun _ _ _ _ _ _ us hl => match us, hl with | [_], _ => rfl) : Df P w K mg base CX0 4 "_law_far_number" ["_law_pen_here"] spFar)
  have Dtxt : DTxt P w K mg base := ⟨Dbig, Gfar, df_of F15 (He.glo_ok X G (fa 15 (u := .glo "_law_any_name") rfl)) (ok_any F15 T Ddraw) (F15.bindsN fun _ _ _ _ _ _ us hl => match us, hl with | [_], _ => rfl), Gtxt⟩
  have Dtxt2 : DTxt2 P w K mg base := ⟨Dtxt, df_of F20 (He.glo_ok X G (fa 20 (u := .glo "_law_odd_number") rfl)) (ok_odd F20 T Dtxt) (F20.bindsN fun _ _ _ _ _ _ us hl => match us, hl with | [_], _ => rfl)⟩
  have Dread : DRead P w K mg base (He.ga K "BadText") := ⟨Dof, df_of F13 (He.glo_ok X G (fa 13 (u := .glo "_law_whole") rfl)) (ok_wh F13 T) (F13.bindsN fun _ _ _ _ _ _ us hl => match us, hl with | [_], _ => rfl), B, He.exm_ok (fa 53 (u := .exm "BadText" "BadText" true) rfl), of_decide_eq_true r2, of_decide_eq_true r3, He.glo_ok X G (fa 26 (u := .glo "WhosedayError") rfl)⟩
  have Ddue : DDue P w K mg base := ⟨df_of F12 (He.glo_ok X G (fa 12 (u := .glo "_law_number") rfl)) (ok_lu F12 T) (F12.bindsN fun _ _ _ _ _ _ us hl => match us, hl with | [_], _ => rfl), df_of F11 (He.glo_ok X G (fa 11 (u := .glo "_law_is_name") rfl)) (ok_ln F11 T) (F11.bindsN fun _ _ _ _ _ _ us hl => match us, hl with | [_], _ => rfl)⟩
  have DUr : DUR P w K mg base (He.ga K "BadText") := ⟨Dof, Gtxt, Meq, O⟩
  have DLr : DLR P w K mg base := ⟨Gtxt, Madd, Msub, Meq, O⟩
  exact ok_law F24 T ⟨DUr, df_of F6 (He.glo_ok X G (fa 6 (u := .glo "_law_pen") rfl)) (ok_pen F6 TP) (F6.bindsN fun _ _ _ _ _ _ us hl => match us, hl with | [_], _ => rfl),
    Ddraw.law_pick,
    df_of F19 (He.glo_ok X G (fa 19 (u := .glo "_law_right_text") rfl)) (ok_rt F19 T Dtxt) (F19.bindsN fun _ _ _ _ _ _ us hl => match us, hl with | [_], _ => rfl),
    df_of F14 (He.glo_ok X G (fa 14 (u := .glo "_law_bent") rfl)) (ok_bent F14 T Ddraw) (F14.bindsN fun _ _ _ _ _ _ us hl => match us, hl with | [_, _], _ => rfl),
    df_of F21 (He.glo_ok X G (fa 21 (u := .glo "_law_odd_text") rfl)) (ok_ot F21 T Dtxt2) (F21.bindsN fun _ _ _ _ _ _ us hl => match us, hl with | [_], _ => rfl),
    Gfar,
    df_of F18 (He.glo_ok X G (fa 18 (u := .glo "_law_entry_due") rfl)) (ok_due F18 T Ddue) (F18.bindsN fun _ _ _ _ _ _ us hl => match us, hl with | [_], _ => rfl),
    df_of F17 (He.glo_ok X G (fa 17 (u := .glo "_law_read") rfl)) (ok_read F17 T Dread) (F17.bindsN fun _ _ _ _ _ _ us hl => match us, hl with | [_], _ => rfl),
    df_of F22 (He.glo_ok X G (fa 22 (u := .glo "_law_later_right") rfl)) (ok_LR F22 T DLr) (F22.bindsN fun _ _ _ _ _ _ us hl => match us, hl with | [_, _, _], _ => rfl),
    df_of F23 (He.glo_ok X G (fa 23 (u := .glo "_law_unlike_right") rfl)) (ok_UR F23 T DUr) (F23.bindsN fun _ _ _ _ _ _ us hl => match us, hl with | [_, _], _ => rfl)⟩
end
end Wd
open PySem PySem.W PySem.Calls PyProof.Rows
set_option maxHeartbeats 0 in
theorem PySem.Challenge.cw_whoseday_k01_entries_are_read_holds : PySem.Challenge.rw_whoseday_k01_entries_are_read.Holds := by
  w_on; o_law
  refine HandSHeadRun.head_any (r := Wd.R) (q := view Wd.R.prog [35]) (H := Wd.hk) (ob := Wd.ob) (M := 8000) (loose := Wd.names) (d := HandSHeadRun.topDef Wd.R.prog 35) (kwd := []) Wd.ob_eq
    (by kernel_rfl) (fun s => by kernel_rfl) Wd.run (by kernel_rfl) (by kernel_rfl) (by kernel_rfl) (by rfl) (by first | assumption | decide +kernel) (by decide +kernel) ⟨rfl, rfl, rfl, rfl, rfl, by decide +kernel⟩ ?hw ?hc
  case hw => w_witness2
  case hc =>
    refine L2.walk_ofE (l := PySem.Challenge.rw_whoseday_k01_entries_are_read) (n := 63) (k := 12) (x := "_law_script") (CX := L2.CX0) rfl (by decide) (by kernel_rfl) ⟨rfl, by decide, by decide⟩ ?F (fun _ _ _ _ z => z)
    intro w mg fa h Y G hmg0
    obtain ⟨K, KX, c⟩ := Y
    have hmg : mg ("law" : PySem.Str) = some (.ref fa) := by
      have e : (HandSHeadRun.topDef Wd.R.prog 35).name = ("law" : PySem.Str) := by kernel_rfl
      rw [← e]
      exact hmg0
    obtain ⟨fd, hb, hF⟩ := Wd.facts (P := (PySem.Challenge.rw_whoseday_k01_entries_are_read).prog) (w := w) KX G hmg c
    exact ⟨K, fd, Wd.spLaw K, KX, hb, fun H a ns hl _ hS => ⟨a, ns, rfl, hS, hl, fun _ => rfl⟩, hF⟩
