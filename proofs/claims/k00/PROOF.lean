import PyProof.Rows.All
import Wide.All
import OpenK.AllK
import Wide.FinOn
import KE.KStateDown
import KE.KExcIs
import KE.KIsAll
import HandS.ForMost
import HandS.ForExc
import HandS.ExcInit
import HandS.ExcValue
import HandS.IsInst
import HandS.Wide
import HandS.Defaults
import HandS.Small
import HandS.Head0
import HandS.Head1
import HandS.Head2
import HandS.HeadEnd
import HandS.HeadHook1
import HandS.HeadHook2
import HandS.StrMore
import PySem.Challenge.RW_whoseday_k00_errors_made_from_their_fiel
set_option Elab.async false
set_option maxHeartbeats 4000000
/-! Errors as values: made, kept, read, asked for their class. -/
namespace Wd
open PySem PySem.Spec PyProof.Rows L2
section
variable {X : Cx} {x f : Str} {e : Expr} {es : List Expr} {te : TE} {ta : TA} {p pos : Pos}
/-- what is asked of a class of errors with an __init__ of its own, when one is made and kept -/
def tErr (C : Addr) (sp : Sp) (ta : TA) : TE := fun σ H Q =>
  ta σ H fun vs H1 => vs.length ≤ 1000 ∧
    ∀ a, H1 a = none → sp (.ref a :: vs) (upd H1 a (exo a C none)) (fun v H2 => v = .non ∧ Q (.ref a) H2) (fun _ _ _ => False)
theorem pe_err {CX : CXT} {C fI : Addr} {k : Nat} {fd : FuncData} {ps : List Str} {sp : Sp} (T : OexC X.K C)
    (iC : PySem.W.findIn X.K (.ref C) "__init__" = some (some (.ref fI)))
    (tI : PySem.W.typeIn X.K (.ref fI) = some (.type "function"))
    (G : FnOk X.prog X.w X.K X.mg X.base CX k fI fd ps sp) (hr : Room (k + 1) X.A) (hb : Binds X.K fd ps [])
    (hx : Passes CX X (fun _ _ _ => False)) (hg : Gl X x) (hm : X.mg x = some (.ref C)) (ha : PA X (e :: es) ta)
    (hdb : (x == ("__debug__" : Str)) = false := by decide)
    (he : starEach (e :: es) X.env = (false, eval e X.env) :: starEach es X.env := by rfl)
    (hpl : (backTo pos (starEach es X.env)).any (·.1) = false := by rfl) :
    PE X (.Call (.Name x p) (e :: es) [] pos) (tErr C sp ta) := by
  constructor
  intro pins s σ H Q I h
  obtain ⟨nm, q, N, bs, bm, sn, sub, ab, col, dd, k0, k1, k2, k3, k5, lC, tail⟩ := T.cls
  apply wpAny_Call_Name_kw
  apply ld_glob I hg hm _ hdb
  refine PySem.W.callWith_K (h₀ := X.base) I.ok.mod.kin T.kC
    (thn (ha.run pos pins s σ H _ I h) fun us s1 ⟨vs, H1, I1, rv, small, q1⟩ => ?_) he hpl
  refine ⟨I1.kIn, ?_⟩
  show wpAny _ _ (call (.ref C) us) _ _ _
  obtain ⟨hp, g, dr, tk, os⟩ := s1
  have up : hp.objs.size ≤ hp.objs.size + 1 := Nat.le_succ _
  have hn : H1 (hp.objs.size + 1) = none := I1.hok.fresh up
  have hq := q1 (hp.objs.size + 1) hn
  have there : ((hp.push (PySem.W.kdv_tup us)).push (PySem.HandSPX.excO C hp.objs.size)).get? (hp.objs.size + 1)
      = some (PySem.HandSPX.excO C hp.objs.size) := by heap_get
  have I2 := I1.laid (t' := tk) (a := hp.objs.size + 1) (o := exo (hp.objs.size + 1) C none)
    (h' := (hp.push (PySem.W.kdv_tup us)).push (PySem.HandSPX.excO C hp.objs.size))
    (fun b o z => Heap.get?_push_of_some _ (Heap.get?_push_of_some _ z)) up (exo_ok there)
  have r2 : Vals (V.ref (hp.objs.size + 1) :: vs) (Value.ref (hp.objs.size + 1) :: us) := .cons rfl rv
  have hl : (Value.ref (hp.objs.size + 1) :: us ++ []).length = ps.length := by
    rw [List.append_nil]
    have z := r2.length
    rw [G.len _ _ _ _ hq] at z
    exact z.symm
  have fits : us.length ≤ sizeLine := by
    rw [← Paired.length rv, sizeLine_eq]
    omega
  have bd := hb ⟨(hp.push (PySem.W.kdv_tup us)).push (PySem.HandSPX.excO C hp.objs.size), g, dr, tk, os⟩
    (Value.ref (hp.objs.size + 1) :: us) I2.kIn hl
  rw [List.append_nil] at bd
  apply wpAny_call
  refine PySem.HandSPX.call_own F.excBase_ValueError (fun Y => PySem.HandSPX.refsVE_contains Y bm tail)
    (I1.kIn _ _ lC) (PySem.W.looks_findIn I1.kIn iC) (fun self => PySem.W.bind_fn I1.kIn self tI) fits
    (codeAny_mono (G.run _ X.stack _ _ ⟨Value.ref (hp.objs.size + 1) :: us, []⟩ (Value.ref (hp.objs.size + 1) :: us)
      _ _ (fun _ _ _ => False) (hr.make C us []) (I2.env0.make C us []) bd r2 hq) ?_)
  intro r s' z
  cases r with
  | error er => exact hx pins σ _ _ er s' I2 z
  | ok fl =>
    cases fl with
    | next => exact False.elim z
    | brk => exact False.elim z
    | cont => exact False.elim z
    | ret u =>
      obtain ⟨v, H3, I3, rv3, ev, q3⟩ := I2.after z
      subst ev
      exact ⟨rv3, V.ref (hp.objs.size + 1), H3, I3, rfl, q3⟩
/-- an error of a class without an __init__ of its own -/
def tErr0 (C : Addr) : TE := fun _ H Q => ∀ a, H a = none → Q (.ref a) (upd H a (exo a C none))
theorem pe_err0 {C : Addr} (q : PySem.W.excIn X.K C He.veBase "ValueError.__new__" = true)
    (gC : X.mg x = some (.ref C)) (kC : PySem.W.keepIn X.K (.ref C) = true) (hg : Gl X x)
    (hdb : (x == ("__debug__" : Str)) = false := by decide) : PE X (.Call (.Name x p) [] [] pos) (tErr0 C) := by
  constructor
  intro pins s σ H Q I h
  apply wpAny_Call_Name_kw
  apply ld_glob I hg gC _ hdb
  refine PySem.W.callWith_K0 I.kIn kC ?_
  show wpAny _ _ (call (.ref C) []) _ _ _
  obtain ⟨bm, N, nm, qn, bs, hdct, sn, sub, ab, col, dd, k0, k1, k2, k3, k5, mN, hC, hN, hni, T⟩ := exc_obj I.kIn q
  refine wpAny_call_exc_subT F.excBase_ValueError T hC hN hni (fun h' a hm => ?_) (Nat.zero_le _)
  have hn : H a = none := I.hok.gone hm.new
  obtain ⟨t, ht, _, _⟩ := hm.there
  exact ⟨.ref a, _, I.laidN hm.keeps hm.new hn (exo_ok ht), rfl, h a hn⟩
/-- what the class at C says, so that its errors may be read and asked -/
structure ErrC (K : PySem.W.Frag) (C : Addr) : Prop where
  isC : (PySem.W.clsIn K C).isSome = true
  ga : PySem.W.findIn K (.ref C) "__getattribute__" = some (some (.builtin "BaseException.__getattribute__"))
  gg : PySem.W.findIn K (.ref C) "__getattr__" = some none
  be : PySem.W.subIn K (.ref C) (.type "BaseException") = some true
  hd : PySem.W.hasDictIn K C = true
  cc : PySem.W.findIn K (.ref C) "__class__" = some (some (.builtin "object.__class__"))
  cg : PySem.W.specialIn K (.builtin "object.__class__") "__get__" = some (some (.builtin "getset_descriptor.__get__"))
  ct : PySem.W.takesIn K (.builtin "object.__class__") = some true
  ob : PySem.W.mroIn K C (.type "object") = some true
/-- at a an error of the class at C, with a dict of these fields, or with none -/
def ErrAt (C a : Addr) (fs : List (Str × V)) (H : Hp) : Prop :=
  (H a = some (exo a C none) ∧ fs = []) ∨ ∃ d, H a = some (exo a C (some d)) ∧ H d = some (exd d fs)
theorem ErrAt.inst {C a : Addr} {fs : List (Str × V)} {pins : List (Addr × Obj)} {σ : L2.St} {H : Hp} {s : Shared} (I : L2.Inv X pins σ H s) (h : ErrAt C a fs H) :
    ∃ ox od, PySem.W.InstAt s.heap a ox C od ∧ ∀ v, fs.lookup f = some v → ∃ o u, od = some o ∧ PySem.W.lookIn f o = some (some u) ∧ RelV v u := by
  rcases h with ⟨ha, rfl⟩ | ⟨d, ha, hd⟩
  · obtain ⟨t1, ho⟩ := exo_at I.hok ha
    exact ⟨_, none, ⟨ho, rfl, rfl, True.intro⟩, fun v z => nomatch z⟩
  · obtain ⟨t1, ho⟩ := exo_at I.hok ha
    obtain ⟨mA, hns, rel⟩ := exd_at I.hok hd
    obtain ⟨od, hod, hl⟩ := lookIn_ns hns
    refine ⟨_, some od, ⟨ho, rfl, rfl, hod⟩, fun v z => ?_⟩
    have r := rel f
    rw [z] at r
    cases hm : mA f with
    | none =>
      rw [hm] at r
      exact r.elim
    | some u =>
      rw [hm] at r
      exact ⟨od, u, rfl, by rw [hl, hm], r⟩
/-- e.f of an error that is kept -/
def tErrF (K : PySem.W.Frag) (f : Str) (te : TE) : TE := fun σ H Q =>
  te σ H fun x H1 => ∃ a C fs v, x = .ref a ∧ ErrC K C ∧ PySem.W.findIn K (.ref C) f = some none ∧ ErrAt C a fs H1 ∧ fs.lookup f = some v ∧ Q v H1
theorem pe_errF (he : PE X e te) (hb : attributeBase e f X.env (eval e X.env) = eval e X.env := by rfl) :
    PE X (.Attribute e f pos) (tErrF X.K f te) := by
  constructor
  intro pins s σ H Q I h
  apply attr_of hb
  refine thn (he.run pins s σ H _ I h) fun w s1 ⟨y, H1, I1, ry, a, C, fs, v, ex, T, hno, at_, hv, q⟩ => ?_
  subst ex
  obtain rfl : w = Value.ref a := ry
  obtain ⟨ox, od, J, look⟩ := at_.inst (f := f) I1
  obtain ⟨o, u, rfl, lu, ru⟩ := look v hv
  exact PySem.HandSPX.exc_get I1.kIn J T.ga T.gg T.be (PySem.W.findObj_own T.hd hno rfl lu) (handed_of ru)
    ⟨v, H1, I1.tok _, ru, q⟩
/-- isinstance(e, c) of an error that is kept -/
def rErrIs (K : PySem.W.Frag) : List V → Hp → VK → Prop := fun xs H Q =>
  ∃ (a C : Addr) (fs : List (Str × V)) (c : V) (u : Value) (b : Bool), xs = [.ref a, c] ∧ ErrC K C ∧ ErrAt C a fs H ∧ ClsV c u ∧
    PySem.W.kitOne K (.ref C) u = some b ∧ Q (.bl b) H
theorem call_errIs : CallR X (.builtin "isinstance") (rErrIs X.K) := by
  intro pins s σ H xs us Q I r h
  obtain ⟨a, C, fs, c, u, b, rfl, T, at_, k, e, q⟩ := h
  obtain ⟨u1, u2, rfl, r1, r2⟩ := vals2 r
  obtain rfl : u1 = Value.ref a := r1
  obtain rfl := k.eq r2
  obtain ⟨ox, od, J, _⟩ := at_.inst (f := "x") I
  exact PySem.W.kia_one (PySem.W.kitx_exc T.isC T.ga T.gg T.be T.cc T.cg T.ct T.ob) I.kIn J e (fun z => nomatch z)
    fun tk => ⟨.bl b, H, I.tok tk, rfl, q⟩
end
end Wd

set_option maxHeartbeats 4000000
namespace Wd
open PySem PySem.Spec PyProof.Rows L2
section
variable {X : Cx}
theorem bound_ne {M : Model} {A : Around} {E : Value → Shared → Prop} {s : Shared} {K : PySem.W.Frag} {a C : Addr} {ox : Obj} {od : Option Obj} {args : List Value} {Q : Option Value → Shared → Prop}
    (kin : K.In s.heap) (J : PySem.W.InstAt s.heap a ox C od)
    (hn : PySem.W.findIn K (.ref C) "__ne__" = some (some (.builtin "object.__ne__")))
    (h : wpAny M A (call (.builtin "object.__ne__") (.ref a :: args)) (fun v => Q (some v)) E s) :
    wpAny M A (callSpecialIfBound? (.ref a) "__ne__" args) Q E s := by
  have last : wpAny M A (call (.builtin "object.__ne__") ([.ref a] ++ args) >>= fun v => pure (some v)) Q E s :=
    wpAny_bind (wpAny_mono h (fun _ _ z => wpAny_pure z) fun _ _ z => z)
  unfold callSpecialIfBound? bindSpecialIfBound?
  refine wpAny_holding ?_
  refine wpAny_bind (wpAny_bind (wpAny_bind ?_))
  refine J.type.here ((PySem.W.looks_findIn kin hn).here ?_)
  refine wpAny_bind (wpAny_askSetting (wpAny_ite ?_))
  split
  · refine wpAny_bind (wpAny_of_eq (PySem.F.cmp_object.ne.bind _) ?_)
    exact wpAny_pure (by exact last)
  · refine wpAny_tryCatch (wpAny_bind (wpAny_of_eq (PySem.F.cmp_object.ne.bind _) ?_))
    exact wpAny_pure (by exact last)
/-- x != y of two instances of one class that has an == of its own -/
def rNeO (C : Addr) (sp : Sp) : R2 := fun x y H Q =>
  ∃ a b dx dy fs gs, x = .ref a ∧ y = .ref b ∧ H a = some (.ins C dx fs) ∧ H b = some (.ins C dy gs) ∧
    sp [.ref a, .ref b] H (fun v H' => ∃ t, v = .bl t ∧ Q (.bl (!t)) H') (fun _ _ _ => False)
theorem op_neO {CX : CXT} {C f : Addr} {k : Nat} {fd : FuncData} {ps : List Str} {sp : Sp}
    (G : FnOk X.prog X.w X.K X.mg X.base CX k f fd ps sp) (hr : Room (k + 2) X.A)
    (he : PySem.W.findIn X.K (.ref C) "__eq__" = some (some (.ref f)))
    (hn : PySem.W.findIn X.K (.ref C) "__ne__" = some (some (.builtin "object.__ne__")))
    (hm : PySem.W.mroIn X.K C (.type "object") = some true) (hf : PySem.W.isFn X.K (.ref f) = true)
    (hb : Binds X.K fd ps []) (hx : Passes CX X (fun _ _ _ => False)) : OpR X (compareOp .NotEq) (rNeO C sp) := by
  intro pins s σ H x y v u Q I rx ry h
  obtain ⟨a, b, dx, dy, fs, gs, rfl, rfl, ha, hb', q⟩ := h
  obtain rfl : v = Value.ref a := rx
  obtain rfl : u = Value.ref b := ry
  obtain ⟨mA, J, _⟩ := ins_get I.hok ha
  obtain ⟨mB, J', _⟩ := ins_get I.hok hb'
  obtain ⟨od, J, _⟩ := J.look
  obtain ⟨od', J', _⟩ := J'.look
  have env : Env0 X.prog X.w X.K X.mg X.base X.A.in1 X.stack s H := by
    have e := I.env0
    exact ⟨e.frames, e.mod, e.bs, e.bsz, e.funs, e.frf, e.hok, e.bare⟩
  have hl := G.len _ _ _ _ q
  have bd := hb s [.ref a, .ref b] I.kIn (by simpa using hl)
  rw [List.append_nil] at bd
  have inner : wpAny (model X.prog X.w) X.A.in1 (call (.ref f) [.ref a, .ref b])
      (fun r s' => ∃ t, r = .bool t ∧ EP X pins σ Q (.bool (!t)) s') X.xe s := by
    refine wpAny_call (codeAny_mono (G.run X.A.in1 X.stack s H ⟨[.ref a, .ref b], []⟩ [.ref a, .ref b] [.ref a, .ref b]
      _ _ (hr.mono (by omega) : Room (k + 1) X.A).in1 env bd (.cons rfl (.cons rfl .nil)) q) ?_)
    intro r s' z
    cases r with
    | error er => exact hx pins σ H s er s' I z
    | ok fl =>
      cases fl with
      | next => exact False.elim z
      | brk => exact False.elim z
      | cont => exact False.elim z
      | ret w =>
        obtain ⟨z1, H2, I2, r2, t, rfl, q2⟩ := I.after z
        obtain rfl : w = Value.bool t := r2
        exact ⟨t, rfl, .bl (!t), H2, I2, rfl, q2⟩
  have hu1 : X.A.in1.units < cLine := ((hr.mono (by omega) : Room 1 X.A).in1).units0
  have one : wpAny (model X.prog X.w) X.A (tryCompare (.ref a) "__ne__" (.ref b))
      (fun r s' => ∃ t, r = some (.bool t) ∧ EP X pins σ Q (.bool t) s') X.xe s := by
    unfold tryCompare
    refine wpAny_bind (bound_ne I.kIn J hn ?_)
    refine wpAny_call (codeAny_call_builtin PySem.F.cmp_object.ne.plain PySem.F.cmpEntry_ne ?_)
    refine PySem.W.check_slot PySem.F.cmpKind_ne PySem.F.cmpSplit_ne (J.type.andThen (PySem.W.looks_mroIn I.kIn hm)) (PySem.F.cmpArgs_ne _ _) ?_
    unfold Builtin.«object.__ne__»
    repeat (first
      | with_reducible refine wpAny_cRoomFor hu1 ?_
      | (refine wpAny_bind (m := callSpecialIfBound? (.ref a) (PySem.Str.ofString "__eq__") [.ref b])
          (PySem.W.ifBound_K I.kIn J he hf (wpAny_mono inner (fun r s' z => ?_) fun _ _ z => z))
         obtain ⟨t, rfl, z⟩ := z)
      | wp_step)
    exact ⟨!t, rfl, z⟩
  have same : PySem.W.notFirst X.K C (.ref C) = true := by simp [PySem.W.notFirst]
  show wpAny (model X.prog X.w) X.A (richCompare .NotEq (.ref a) (.ref b)) (EP X pins σ Q) X.xe s
  unfold richCompare
  simp only [oneThing_ref]
  refine wpAny_holding (wpAny_bind (wpAny_cRoomFor hr.units0 ?_))
  rw [cmpInfo_NotEq]
  dsimp only
  refine wpAny_bind (J.type.here (wpAny_bind (J'.type.here ?_)))
  rw [show (Value.ref C != Value.ref C) = false from by simp]
  simp only [Bool.false_eq_true, if_false]
  refine wpAny_bind (wpAny_pure ?_)
  simp only [Bool.false_eq_true, if_false]
  refine wpAny_bind (wpAny_mono one (fun r s' z => ?_) fun _ _ z => z)
  obtain ⟨t, rfl, z⟩ := z
  first | exact wpAny_pure z | exact wpAny_pure (wpAny_pure z)
end
end Wd

set_option maxHeartbeats 0
namespace Wd
open PySem PySem.Spec PyProof.Rows L2
/-! ### facts of the written part, told by one test, beside the defs -/
def obsT (q : PySem.W.Frag → Bool) (fn : List He.DefD) (K : PySem.W.Frag) : He.AlD :=
  (q K && fn.all (He.DefD.ok K), fn.map fun d => He.fnW K d.at_)
def SaysT (q : PySem.W.Frag → Bool) (fn : List He.DefD) (K : PySem.W.Frag) : Prop := obsT q fn K = He.valD fn
def seeT (n : Nat) (q : PySem.W.Frag → Bool) (fn : List He.DefD) (g : Addr → Option Obj) : He.AlD := obsT q fn (He.frG g (He.asD g n))
def hookT (n : Nat) (q : PySem.W.Frag → Bool) (fn : List He.DefD) : PySem.W.Hook where
  α := He.AlD
  obs := fun s => seeT n q fn s.heap.get?
  val := fun _ => He.valD fn
  says := fun _ h => ∃ K : PySem.W.Frag, K.In h ∧ SaysT q fn K
  of := fun _ s z => ⟨He.frG s.heap.get? (He.asD s.heap.get? n), He.frG_in, z⟩
  keeps := fun _ _ _ ⟨K, hin, z⟩ kp => ⟨K, hin.keeps kp, z⟩
theorem seeT_eq {n : Nat} {q : PySem.W.Frag → Bool} {fn : List He.DefD} {g : Addr → Option Obj} {s : Shared} (h : ∀ a, g a = s.heap.get? a) :
    seeT n q fn g = (hookT n q fn).obs s := by
  rw [show g = s.heap.get? from funext h] <;> rfl
theorem SaysT.test {q : PySem.W.Frag → Bool} {fn : List He.DefD} {K : PySem.W.Frag} (c : SaysT q fn K) : q K = true :=
  (He.ba (show (q K && fn.all (He.DefD.ok K)) = true from congrArg (fun z : He.AlD => z.1) c)).1
theorem SaysT.def_ {q : PySem.W.Frag → Bool} {fn : List He.DefD} {K : PySem.W.Frag} (c : SaysT q fn K) (i : Nat) {d : He.DefD} (h : fn[i]? = some d := by rfl) :
    ∃ fd, FunD K d.name d.qual d.params d.body d.scope (d.dvs K) (d.kws K) (He.fAd K d.at_) fd := by
  have all := (He.ba (show (q K && fn.all (He.DefD.ok K)) = true from congrArg (fun z : He.AlD => z.1) c)).2
  have e : fn.map (fun d => He.fnW K d.at_) = fn.map He.DefD.val := congrArg (fun z : He.AlD => z.2) c
  have e2 : (fn.map fun d => He.fnW K d.at_)[i]? = (fn.map He.DefD.val)[i]? := by rw [e]
  simp only [List.getElem?_map, h, Option.map_some] at e2
  exact He.DefD.funD (Option.some.inj e2) (List.all_eq_true.mp all d (List.mem_of_getElem? h))
/-! ### the text -/
def top (i : Nat) : Stmt := PySem.Challenge.pw_whoseday_k00_errors_made_from_their_fiel.main.body.getD i (.Pass ⟨0, 0, 0, 0⟩)
def glD (x : Str) (st : Stmt) (dfl : List He.Dv) (kwd : List (Str × He.Dv)) : He.DefD := ⟨(x, none), x, x, defArgs st, defBody st, defScope st, dfl, kwd⟩
def meD (c m q : Str) (st : Stmt) (dfl : List He.Dv) (kwd : List (Str × He.Dv)) : He.DefD := ⟨(c, some m), m, q, defArgs st, defBody st, defScope st, dfl, kwd⟩
def names : List PySem.Str := (["WhosedayError", "BadText", "BadName", "NoZone", "NoProgram", "NoRoute", "BadPiece", "BadNumber", "TooMany", "NothingToUndo", "BadKind", "BadRule", "BadOffsets", "NoHours", "BadChange", "BadLook", "TooWide", "NotTogether", "BadEntry", "OtherPrograms", "OtherRoutes", "NotARing", "NotHeld", "BadDeed"] : List PySem.Str) ++ (["MOST_DIGITS", "MOST_LETTERS", "is_name", "number_in", "DAY", "KINDS", "Entry", "entry_of", "is_kind", "_later", "_parts", "_law_pen", "_law_draw", "_law_pick", "_law_made_early", "_law_made_late", "_law_kinds", "_law_worth"] : List PySem.Str)
def errs : List (Str × Str) := [("BadText", "line"), ("BadName", "name"), ("NoZone", "name"), ("NoProgram", "name"), ("NoRoute", "index"), ("BadPiece", "index"), ("BadNumber", "number"), ("TooMany", "most"), ("BadKind", "kind"), ("BadRule", "rule"), ("BadOffsets", "offsets"), ("NoHours", "program"), ("BadChange", "index"), ("BadLook", "index"), ("TooWide", "index"), ("NotTogether", "looks"), ("BadEntry", "entry"), ("NotARing", "names"), ("NotHeld", "name"), ("BadDeed", "index")]
def errs0 : List Str := ["NothingToUndo", "OtherPrograms", "OtherRoutes"]
def nms : List Str := ["BadText", "BadName", "NoZone", "NoProgram", "NoRoute", "BadPiece", "BadNumber", "TooMany", "BadKind", "BadRule", "BadOffsets", "NoHours", "BadChange", "BadLook", "TooWide", "NotTogether", "BadEntry", "NotARing", "NotHeld", "BadDeed", "NothingToUndo", "OtherPrograms", "OtherRoutes"]
def nm (i : Nat) : Str := nms.getD i ""
/-- the class of the i-th error -/
def cl (K : PySem.W.Frag) (i : Nat) : Addr := He.ga K (nm i)
def errB (K : PySem.W.Frag) (C : Addr) : Bool :=
  (PySem.W.clsIn K C).isSome && (He.eqO (PySem.W.findIn K (.ref C) "__getattribute__") (some (some (.builtin "BaseException.__getattribute__"))) &&
  (He.eqO (PySem.W.findIn K (.ref C) "__getattr__") (some none) && (decide (PySem.W.subIn K (.ref C) (.type "BaseException") = some true) &&
  (PySem.W.hasDictIn K C && (He.eqO (PySem.W.findIn K (.ref C) "__class__") (some (some (.builtin "object.__class__"))) && decide (PySem.W.mroIn K C (.type "object") = some true))))))
def oexB (K : PySem.W.Frag) (C : Addr) : Bool :=
  (match K.lookup C with
    | some ⟨.type "type", _, .cls cd, sl⟩ => (match cd.mro, sl.toList with
      | .ref C' :: bm, [_, _, _, _, some (.builtin n), _] => C' == C && (n == "ValueError.__new__" && (!cd.hasDel && (cd.hasDict && PySem.HandSPX.refsVE bm)))
      | _, _ => false)
    | _ => false) && (He.eqO (PySem.W.findIn K (.ref C) "__setattr__") (some (some (.builtin "object.__setattr__"))) &&
  (decide (PySem.W.typeIn K (.ref C) = some (.type "type")) && PySem.W.keepIn K (.ref C)))
def iniB (K : PySem.W.Frag) (x f : Str) : Bool :=
  oexB K (He.ga K x) && (He.eqO (PySem.W.findIn K (.ref (He.ga K x)) f) (some none) &&
  (He.eqO (PySem.W.findIn K (.ref (He.ga K x)) "__init__") (some (some (.ref (He.ma K (He.ga K x) "__init__")))) &&
  decide (PySem.W.typeIn K (.ref (He.ma K (He.ga K x) "__init__")) = some (.type "function"))))
def kitB1 (K : PySem.W.Frag) : Bool := (List.range 23).all fun i => (List.range 23).all fun j => decide (PySem.W.kitOne K (.ref (cl K i)) (.ref (cl K j)) = some (decide (i = j)))
def kitB2 (K : PySem.W.Frag) : Bool := (List.range 23).all fun i => decide (PySem.W.kitOne K (.ref (cl K i)) (.ref (He.ga K "WhosedayError")) = some true) && decide (PySem.W.kitOne K (.ref (cl K i)) (.type "ValueError") = some true)
def fas : List He.Fa := [.glo "law", .glo "_law_pen", .glo "_law_draw", .glo "_law_pick", .glo "_law_made_early", .glo "_law_made_late", .glo "_law_kinds", .glo "_law_worth", .glo "number_in", .glo "is_kind", .glo "_parts", .glo "Entry", .glo "WhosedayError",
  .free "list", .free "int", .free "len", .free "isinstance", .free "str", .free "range", .free "ValueError",
  .cls "Entry", .mkr "Entry", .meth "Entry" "__eq__", .noat "Entry" "text", .noat "Entry" "kind", .noat "Entry" "first", .noat "Entry" "last", .noat "Entry" "zone", .exc "NothingToUndo", .exc "OtherPrograms", .exc "OtherRoutes", .glo "KINDS"]
def entB (K : PySem.W.Frag) : Bool :=
  He.eqO (PySem.W.findIn K (.ref (He.ga K "Entry")) "__ne__") (some (some (.builtin "object.__ne__"))) && (He.eqO (PySem.W.findIn K (.ref (He.ga K "Entry")) "__class__") (some (some (.builtin "object.__class__"))) &&
  (decide (PySem.W.mroIn K (He.ga K "Entry") (.type "object") = some true) && (decide (PySem.W.kitOne K (.ref (He.ga K "Entry")) (.ref (He.ga K "Entry")) = some true) &&
  He.tupB K "KINDS" [.str "day", .str "float", .str "zoned", .str "fixed"])))
def clsB (K : PySem.W.Frag) : Bool := He.eqO (PySem.W.specialIn K (.builtin "object.__class__") "__get__") (some (some (.builtin "getset_descriptor.__get__"))) && decide (PySem.W.takesIn K (.builtin "object.__class__") = some true)
def q (K : PySem.W.Frag) : Bool := fas.all (fun f => f.ok K) && (nms.all (fun x => (He.Fa.glo x).ok K && errB K (He.ga K x)) && (errs.all (fun p => iniB K p.1 p.2) && (kitB1 K && (kitB2 K && (entB K && clsB K)))))
def fn : List He.DefD := [glD "law" (top 46) [] [], glD "_law_pen" (top 39) [] [], glD "_law_draw" (top 40) [] [], glD "_law_pick" (top 41) [] [], glD "_law_made_early" (top 42) [] [], glD "_law_made_late" (top 43) [] [], glD "_law_kinds" (top 44) [] [], glD "_law_worth" (top 45) [] [],
  glD "number_in" (top 29) [.int 30] [], glD "is_kind" (top 35) [] [], glD "_parts" (top 37) [] [], meD "Entry" "__init__" "Entry.__init__" (inClass (top 33) 0) [] [("digits", .int 30)], meD "Entry" "__eq__" "Entry.__eq__" (inClass (top 33) 1) [] [],
  meD "BadText" "__init__" "BadText.__init__" (inClass (top 2) 0) [] [],
  meD "BadName" "__init__" "BadName.__init__" (inClass (top 3) 0) [] [],
  meD "NoZone" "__init__" "NoZone.__init__" (inClass (top 4) 0) [] [],
  meD "NoProgram" "__init__" "NoProgram.__init__" (inClass (top 5) 0) [] [],
  meD "NoRoute" "__init__" "NoRoute.__init__" (inClass (top 6) 0) [] [],
  meD "BadPiece" "__init__" "BadPiece.__init__" (inClass (top 7) 0) [] [],
  meD "BadNumber" "__init__" "BadNumber.__init__" (inClass (top 8) 0) [] [],
  meD "TooMany" "__init__" "TooMany.__init__" (inClass (top 9) 0) [] [],
  meD "BadKind" "__init__" "BadKind.__init__" (inClass (top 11) 0) [] [],
  meD "BadRule" "__init__" "BadRule.__init__" (inClass (top 12) 0) [] [],
  meD "BadOffsets" "__init__" "BadOffsets.__init__" (inClass (top 13) 0) [] [],
  meD "NoHours" "__init__" "NoHours.__init__" (inClass (top 14) 0) [] [],
  meD "BadChange" "__init__" "BadChange.__init__" (inClass (top 15) 0) [] [],
  meD "BadLook" "__init__" "BadLook.__init__" (inClass (top 16) 0) [] [],
  meD "TooWide" "__init__" "TooWide.__init__" (inClass (top 17) 0) [] [],
  meD "NotTogether" "__init__" "NotTogether.__init__" (inClass (top 18) 0) [] [],
  meD "BadEntry" "__init__" "BadEntry.__init__" (inClass (top 19) 0) [] [],
  meD "NotARing" "__init__" "NotARing.__init__" (inClass (top 22) 0) [] [],
  meD "NotHeld" "__init__" "NotHeld.__init__" (inClass (top 23) 0) [] [],
  meD "BadDeed" "__init__" "BadDeed.__init__" (inClass (top 24) 0) [] []]
abbrev R : PySem.W.OpenRow := PySem.W.OpenLaw.row PySem.Challenge.rw_whoseday_k00_errors_made_from_their_fiel
abbrev hk : PySem.W.Hook := hookT 5 q fn
def ob (s : PySem.W.SharedT) : He.AlD := seeT 5 q fn (HandSHeadRun.getT s)
theorem ob_eq (s : PySem.W.SharedT) : ob s = hk.obs s.abs := seeT_eq (HandSHeadRun.getT_eq s)
theorem run (w : World) : HandSHeadRun.RunEq R (PySem.W.view R.prog [46]) hk ob 8000 names w := by
  intro os
  kernel_rfl
end Wd

set_option maxHeartbeats 4000000
namespace Wd
open PySem PySem.Spec PyProof.Rows L2
abbrev FnG (K : PySem.W.Frag) (x : Str) (i : Nat) (f : Addr) (fd : FuncData) : Prop := FunD K x x (defArgs (top i)) (defBody (top i)) (defScope (top i)) [] [] f fd
/-! ### the pen -/
def penD (l : Addr) (a b : Int) : List (Key × V) := [(Sum.inr "cells", .ref l), (Sum.inr "at", .int a), (Sum.inr "left", .int b)]
theorem k1 : ¬ (("cells" : Str) = "at") := by decide +kernel
theorem k2 : ¬ (("cells" : Str) = "left") := by decide +kernel
theorem k3 : ¬ (("at" : Str) = "left") := by decide +kernel
theorem j1 : ¬ ((Sum.inr ("cells" : Str) : Key) = Sum.inr ("at" : Str)) := fun z => k1 (Sum.inr.inj z)
theorem j2 : ¬ ((Sum.inr ("cells" : Str) : Key) = Sum.inr ("left" : Str)) := fun z => k2 (Sum.inr.inj z)
theorem j3 : ¬ ((Sum.inr ("at" : Str) : Key) = Sum.inr ("left" : Str)) := fun z => k3 (Sum.inr.inj z)
section
variable {l d : Addr} {a b x : Int} {H : Hp}
theorem pd_cells : valV (penD l a b) (Sum.inr "cells") = some (.ref l) := valV_pos rfl
theorem pd_at : valV (penD l a b) (Sum.inr "at") = some (.int a) := (valV_neg j1).trans (valV_pos rfl)
theorem pd_left : valV (penD l a b) (Sum.inr "left") = some (.int b) := (valV_neg j2).trans ((valV_neg j3).trans (valV_pos rfl))
theorem pp_at : putK (penD l a b) (Sum.inr "at") (.int x) = penD l x b := by
  simp [putK, penD, k1, Ne.symm k3]
theorem pp_left : putK (penD l a b) (Sum.inr "left") (.int x) = penD l a x := by
  simp [putK, penD, k2, k3]
theorem gt_cells (h : H d = some (.dK (penD l a b))) : DGet H d (.str "cells") (some (.ref l)) := by
  have z := DGet.k (k := Sum.inr "cells") h
  rw [pd_cells] at z
  exact z
theorem gt_at (h : H d = some (.dK (penD l a b))) : DGet H d (.str "at") (some (.int a)) := by
  have z := DGet.k (k := Sum.inr "at") h
  rw [pd_at] at z
  exact z
theorem gt_left (h : H d = some (.dK (penD l a b))) : DGet H d (.str "left") (some (.int b)) := by
  have z := DGet.k (k := Sum.inr "left") h
  rw [pd_left] at z
  exact z
theorem pt_at (h : H d = some (.dK (penD l a b))) : DPut H d (.str "at") (.int x) (upd H d (.dK (penD l x b))) := by
  have z := DPut.k (k := Sum.inr "at") (v := .int x) h (small1000 (show 3 ≤ 1000 by decide))
  rw [pp_at] at z
  exact z
theorem pt_left (h : H d = some (.dK (penD l a b))) : DPut H d (.str "left") (.int x) (upd H d (.dK (penD l a x))) := by
  have z := DPut.k (k := Sum.inr "left") (v := .int x) h (small1000 (show 3 ≤ 1000 by decide))
  rw [pp_left] at z
  exact z
end
theorem ifT {p : Prop} [Decidable p] {A B : Prop} (h : p) (a : A) : if decide p = true then A else B := by rw [if_pos (decide_eq_true h)]; exact a
theorem ifF {p : Prop} [Decidable p] {A B : Prop} (h : ¬ p) (b : B) : if decide p = true then A else B := by
  rw [decide_eq_false h, if_neg Bool.false_ne_true]
  exact b
theorem ifC {p : Prop} [Decidable p] {A B : Prop} (a : p → A) (b : ¬ p → B) : if decide p = true then A else B := by
  by_cases h : p
  · exact ifT h (a h)
  · exact ifF h (b h)
theorem cm1 (x y : Int) : CMul (x % 2147483629 + 1) y := .inl ⟨by omega, by omega⟩
theorem cm2 (x y : Int) : CMul (x % 2147483647) y := .inl ⟨by omega, by omega⟩
theorem cm3 (x y : Int) : CMul (x % 2147483587) y := .inl ⟨by omega, by omega⟩
/-- at d a pen over a list at l, with a next place -/
def Pen (H : Hp) (d l : Addr) (a : Int) : Prop :=
  ∃ (cs : List Int) (b : Int), H d = some (.dK (penD l a b)) ∧ H l = some (.lst (cs.map V.int)) ∧ cs.length ≤ 63 ∧ 0 ≤ b ∧ 0 ≤ a
/-- all but the pen's dict stands as before -/
def But (d : Addr) (H H' : Hp) : Prop := ∀ c o, H c = some o → c ≠ d → H' c = some o
theorem But.refl {d : Addr} {H : Hp} : But d H H := fun _ _ z _ => z
theorem But.trans {d : Addr} {H H1 H2 : Hp} (x : But d H H1) (y : But d H1 H2) : But d H H2 := fun c o z n => y c o (x c o z n) n
theorem But.same {d : Addr} {H H1 : Hp} (x : Same H H1) : But d H H1 := fun c o z _ => x c o z
theorem But.upd {d : Addr} {H : Hp} {o : HO} : But d H (upd H d o) := fun c u z n => by rw [upd_ne n]; exact z
def spPen (K : PySem.W.Frag) : Sp := fun vs H Q _ => ∃ (a : Addr) (ns : List Int), vs = [.ref a] ∧ SqL K H a (ns.map V.int) ∧ ns.length ≤ 63 ∧
  ∀ H' d l, Same H H' → H d = none → H l = none → Pen H' d l 0 → Q (.ref d) H'
def spDraw : Sp := fun vs H Q _ => ∃ (d l : Addr) (a n : Int), vs = [.ref d, .int n] ∧ Pen H d l a ∧ a ≤ 100000 ∧ 0 < n ∧ n < 1073741824 ∧
  ∀ r a' H', 0 ≤ r → r < n → a ≤ a' → a' ≤ a + 1 → Pen H' d l a' → But d H H' → Q (.int r) H'
def spPick (K : PySem.W.Frag) : Sp := fun vs H Q _ => ∃ (d l t : Addr) (a : Int) (xs : List V), vs = [.ref d, .ref t] ∧ t ≠ d ∧ Pen H d l a ∧ a ≤ 100000 ∧ H t = some (.lst xs) ∧ xs ≠ [] ∧ xs.length ≤ 1000 ∧
  ∀ x a' H', x ∈ xs → a ≤ a' → a' ≤ a + 1 → Pen H' d l a' → But d H H' → Q x H'
structure TxtP (mg : Str → Option Value) : Prop where
  list : mg "list" = none
  int : mg "int" = none
  len : mg "len" = none
theorem dp_ints {K : PySem.W.Frag} {H : Hp} : ∀ cs : List Int, DpAll K H (cs.map V.int) (cs.map PyData.int)
  | [] => .nil
  | c :: r => .cons (.int c) (dp_ints r)
theorem shaped_ints0 (cs : List Int) : SeqAt.shaped (.list (cs.map PyData.int)) = true := PySem.W.ke_shaped_ints cs
theorem at_mod {cs : List Int} (h : cs ≠ []) (a : Int) : (0 : Int) < (cs.length : Int) ∧ ∃ c, atI (cs.map V.int) (a % (cs.length : Int)) = some (.int c) := by
  have pos : (0 : Int) < (cs.length : Int) := by
    have := List.length_pos_iff.mpr h
    omega
  obtain ⟨j, hj⟩ := Int.eq_ofNat_of_zero_le (Int.emod_nonneg a (show (cs.length : Int) ≠ 0 by omega))
  have lt := Int.emod_lt_of_pos a pos
  rw [hj] at lt ⊢
  have lt2 : j < cs.length := by omega
  refine ⟨pos, cs[j], atI_nat ?_⟩
  rw [List.getElem?_map, List.getElem?_eq_getElem lt2]
  rfl
theorem cut_ints (ns : List Int) (lo hi : Option Int) : ∃ cs : List Int, cutV (ns.map V.int) lo hi = cs.map V.int ∧ cs.length ≤ ns.length := by
  refine ⟨(ns.drop (HT.sIx (ns.map V.int).length 0 lo)).take (HT.sIx (ns.map V.int).length (ns.map V.int).length hi - HT.sIx (ns.map V.int).length 0 lo), ?_, ?_⟩
  · unfold cutV
    rw [List.map_take, List.map_drop]
  · rw [List.length_take, List.length_drop]
    omega
section
variable {P : Program} {w : World} {K : PySem.W.Frag} {mg : Str → Option Value} {base : Heap} {f : Addr} {fd : FuncData}
theorem scPen : FnScope ["_law_script"] ["_law_script"] (defScope (top 39)) := ⟨rfl, rfl, rfl, by decide +kernel, rfl, by decide +kernel, by decide +kernel⟩
theorem ok_pen (F : FnG K "_law_pen" 39 f fd) (T : TxtP mg) : FnOk P w K mg base CX0 1 f fd ["_law_script"] (spPen K) := by
  refine F.ok scPen (fun vs H Q E h => ?_) (fun cdv A outer s H vs Q E hr h => ?_)
  · obtain ⟨a, ns, rfl, _⟩ := h
    rfl
  · obtain ⟨a, ns, rfl, hs, hl, k⟩ := h
    refine ⟨_, PSs.nox (pss_one (ps_ret (pe_disp (pps_cons pe_str (pe_callTy call_list_of (by rfl) T.list (by decide +kernel) (pa_cons (pe_slice sl_list (pv 0) po_none (po_some pe_int)) pa_nil))
      (pps_cons pe_str pe_int (pps_cons pe_str pe_int pps_nil))) (by rfl) (by rfl) (fun z => by cases z) (by decide)))), ?_⟩
    intro p hp
    have np : ∀ {c : Addr} {o : HO}, H c = some o → c ≠ p := fun z => ne_of_none z hp
    have h0 : Same H (upd H p (.dK [])) := fun c o z => by
      rw [upd_ne (np z)]
      exact z
    refine ⟨_, rfl, 63, rfl, a, _, rfl, h0.seq hs, fun s1 hs1 => ?_⟩
    refine ⟨s1, _, rfl, .inl (SqL.of upd_same), fun l hl1 => ?_⟩
    obtain ⟨cs, hc, hz⟩ := cut_ints ns none (some 63)
    rw [hc] at hl1
    rw [hc]
    have e1 : p ≠ s1 := ne_of_none upd_same hs1
    have e2 : p ≠ l := fun z => by
      rw [← z, upd_ne e1, upd_same] at hl1
      cases hl1
    have e3 : s1 ≠ l := ne_of_none upd_same hl1
    have nl : H l = none := by
      rw [upd_ne e3.symm, upd_ne e2.symm] at hl1
      exact hl1
    have ns1 : H s1 = none := by
      rw [upd_ne e1.symm] at hs1
      exact hs1
    refine ⟨by rw [upd_ne e2, upd_ne e1, upd_same], penD l 0 0, rfl, (show 3 ≤ 15 by decide), ?_⟩
    have em : mergeK [] (penD l 0 0) = penD l 0 0 := by
      simp [mergeK, penD, putK, k1, k2, k3]
    rw [em]
    refine k _ p l (fun c o z => ?_) hp nl ⟨cs, 0, upd_same, ?_, by omega, Int.le_refl 0, Int.le_refl 0⟩
    · rw [upd_ne (np z), upd_ne (ne_of_none z nl), upd_ne (ne_of_none z ns1), upd_ne (np z)]
      exact z
    · rw [upd_ne e2.symm, upd_same]
theorem scDraw : FnScope ["_law_pen_here", "_law_many", "_law_digit", "_law_spot", "_law_cell", "_law_mixed"] ["_law_pen_here", "_law_many"] (defScope (top 40)) := ⟨rfl, rfl, rfl, by decide +kernel, rfl, by decide +kernel, by decide +kernel⟩
theorem ok_draw (F : FnG K "_law_draw" 40 f fd) (T : TxtP mg) : FnOk P w K mg base CX0 1 f fd ["_law_pen_here", "_law_many"] spDraw := by
  refine F.ok scDraw (fun vs H Q E h => ?_) (fun cdv A outer s H vs Q E hr h => ?_)
  · obtain ⟨d, l, a, n, rfl, _⟩ := h
    rfl
  · obtain ⟨d, l, a, n, rfl, ⟨cs, b, hd, hl, hz, hb, ha⟩, ha2, hn, hn2, k⟩ := h
    have hu := hu_of hr
    have hu64 := hr.units
    refine ⟨_, PSs.nox (pss_cons (ps_if (pt_cmpR op_ge (pe_dget hu (pv 0) pe_str (fun _ _ => rfl)) (pv 1) (nomark _)) (pss_cons (ps_set (i := 2) scDraw.nd rfl (Or.inl rfl) (pe_op op_mod (pe_callTy call_int1 (by rfl) T.int (by decide +kernel) (pa_cons (pe_dget hu (pv 0) pe_str (fun _ _ => rfl)) pa_nil)) (pv 1)))
        (pss_cons (ps_dput hu (pv 0) pe_str (pe_op op_fdiv (pe_dget hu (pv 0) pe_str (fun _ _ => rfl)) (pv 1)) rfl)
        (pss_one (ps_ret (pv 2))))) pss_nil)
        (pss_cons (ps_set (i := 3) scDraw.nd rfl (Or.inl rfl) (pe_dget hu (pv 0) pe_str (fun _ _ => rfl)))
        (pss_cons (ps_dput hu (pv 0) pe_str (pe_op op_add (pv 3) pe_int) rfl)
        (pss_cons (ps_set (i := 4) scDraw.nd rfl (Or.inl rfl) (pe_op op_add (pe_op op_mul pe_int (pv 3)) pe_int))
        (pss_cons (ps_if (pt_cmpR (op_neD hu64) (pe_dget hu (pv 0) pe_str (fun _ _ => rfl)) (pe_lst pa_nil) (nomark _)) (pss_one (ps_set (i := 4) scDraw.nd rfl (Or.inl rfl) (pe_ix ix_list (pe_dget hu (pv 0) pe_str (fun _ _ => rfl)) (pe_op op_mod (pe_callTy call_int1 (by rfl) T.int (by decide +kernel) (pa_cons (pv 3) pa_nil)) (pe_callB call_len (by rfl) T.len PySem.boot_len (pa_cons (pe_dget hu (pv 0) pe_str (fun _ _ => rfl)) pa_nil))) (fun _ _ => rfl)))) pss_nil)
        (pss_cons (ps_if (PW.pt (pw_and (pt_cmpR op_lt (pv 3) (pe_callB call_len (by rfl) T.len PySem.boot_len (pa_cons (pe_dget hu (pv 0) pe_str (fun _ _ => rfl)) pa_nil)) (nomark _)) (pw_and1 (pt_cmpR op_ge (pv 4) (pe_op op_pow pe_int pe_int) (nomark _))))) (pss_cons (ps_dput hu (pv 0) pe_str (pe_op op_fdiv (pe_op op_sub (pv 4) (pe_op op_pow pe_int pe_int)) (pv 1)) rfl)
        (pss_one (ps_ret (pe_op op_mod (pe_callTy call_int1 (by rfl) T.int (by decide +kernel) (pa_cons (pe_op op_sub (pv 4) (pe_op op_pow pe_int pe_int)) pa_nil)) (pv 1))))) pss_nil)
        (pss_cons (ps_set (i := 5) scDraw.nd rfl (Or.inl rfl) (pe_op op_add (pe_op op_add (pe_op op_mul (pe_op op_add (pe_op op_mod (pe_callTy call_int1 (by rfl) T.int (by decide +kernel) (pa_cons (pv 4) pa_nil)) pe_int) pe_int) (pe_op op_add (pe_op op_mul pe_int (pv 3)) pe_int)) (pe_op op_mul (pe_op op_mul pe_int (pv 3)) (pv 3))) pe_int))
        (pss_cons (ps_set (i := 5) scDraw.nd rfl (Or.inl rfl) (pe_op op_mod (pe_callTy call_int1 (by rfl) T.int (by decide +kernel) (pa_cons (pv 5) pa_nil)) pe_int))
        (pss_cons (ps_set (i := 5) scDraw.nd rfl (Or.inl rfl) (pe_op op_mod (pe_callTy call_int1 (by rfl) T.int (by decide +kernel) (pa_cons (pe_op op_mul (pv 5) (pe_op op_add (pv 5) pe_int)) pa_nil)) pe_int))
        (pss_cons (ps_set (i := 5) scDraw.nd rfl (Or.inl rfl) (pe_op op_mod (pe_callTy call_int1 (by rfl) T.int (by decide +kernel) (pa_cons (pe_op op_mul (pv 5) (pv 5)) pa_nil)) pe_int))
        (pss_one (ps_ret (pe_op op_mod (pe_callTy call_int1 (by rfl) T.int (by decide +kernel) (pa_cons (pe_op op_fdiv (pv 5) pe_int) pa_nil)) (pv 1)))))))))))))), ?_⟩
    refine ⟨_, rfl, d, _, rfl, gt_left hd, _, rfl, _, _, rfl, rfl, _, rfl, ?_⟩
    by_cases hc : n ≤ b
    · refine ifT hc ?_
      refine ⟨_, rfl, d, _, rfl, gt_left hd, .inl ⟨b, rfl, ?_⟩⟩
      refine ⟨_, rfl, b, n, rfl, rfl, hn, ?_⟩
      refine ⟨_, rfl, d, _, rfl, gt_left hd, _, rfl, b, n, rfl, rfl, ⟨hn, hn2⟩, ?_⟩
      refine ⟨_, rfl, d, _, rfl, pt_left hd, ?_⟩
      refine ⟨_, rfl, ?_⟩
      have dl : l ≠ d := ne_of hl hd (by intro z; cases z)
      exact k _ a _ (Int.emod_nonneg b (by omega)) (Int.emod_lt_of_pos b hn) (Int.le_refl a) (by omega)
        ⟨cs, b / n, upd_same, by rw [upd_ne dl]; exact hl, hz, Int.ediv_nonneg hb (by omega), ha⟩ But.upd
    · refine ifF hc ?_
      have dl : l ≠ d := ne_of hl hd (by intro z; cases z)
      refine ⟨_, rfl, d, _, rfl, gt_at hd, ?_⟩
      refine ⟨_, rfl, a, 1, rfl, rfl, _, rfl, d, _, rfl, pt_at hd, ?_⟩
      refine ⟨_, rfl, 37, a, rfl, rfl, .inl ⟨by decide, by decide⟩, _, _, rfl, rfl, ?_⟩
      refine ⟨_, rfl, d, _, rfl, gt_cells upd_same, Nat.zero_le _, fun p hp => ?_⟩
      have hl1 : upd H d (.dK (penD l (a + 1) b)) l = some (.lst (cs.map V.int)) := by rw [upd_ne dl]; exact hl
      have lp : l ≠ p := ne_of_none hl1 hp
      have dp : d ≠ p := ne_of_none upd_same hp
      have h2l : upd (upd H d (.dK (penD l (a + 1) b))) p (.lst []) l = some (.lst (cs.map V.int)) := by rw [upd_ne lp]; exact hl1
      have h2d : upd (upd H d (.dK (penD l (a + 1) b))) p (.lst []) d = some (.dK (penD l (a + 1) b)) := by rw [upd_ne dp, upd_same]
      have h2b : But d H (upd (upd H d (.dK (penD l (a + 1) b))) p (.lst [])) := fun c o z n => by
        have z1 : upd H d (.dK (penD l (a + 1) b)) c = some o := by rw [upd_ne n]; exact z
        rw [upd_ne (ne_of_none z1 hp)]
        exact z1
      refine ⟨_, _, .lst (SqL.of h2l) (dp_ints cs), .lst (SqL.of upd_same) .nil, shaped_ints0 cs, shaped_ints0 [], _, rfl, ?_⟩
      generalize upd (upd H d (.dK (penD l (a + 1) b))) p (.lst []) = H2 at h2l h2d h2b ⊢
      have out : ∀ (r b' : Int), 0 ≤ r → r < n → 0 ≤ b' → Q (.int r) (upd H2 d (.dK (penD l (a + 1) b'))) := fun r b' r0 rn b0 =>
        k r (a + 1) _ r0 rn (by omega) (Int.le_refl _) ⟨cs, b', upd_same, by rw [upd_ne dl]; exact h2l, hz, b0, by omega⟩ (h2b.trans But.upd)
      have out2 : ∀ (r : Int), 0 ≤ r → r < n → Q (.int r) H2 := fun r r0 rn =>
        k r (a + 1) _ r0 rn (by omega) (Int.le_refl _) ⟨cs, b, h2d, h2l, hz, hb, by omega⟩ h2b
      by_cases hcs : cs = []
      all_goals first
        | (have hcs0 : cs = [] := hcs
           rw [show (!PyData.eqv (.list (cs.map PyData.int)) (.list [])) = false from by rw [hcs]; rfl]
           refine iteF ?_)
        | (rw [show (!PyData.eqv (.list (cs.map PyData.int)) (.list [])) = true from by
             obtain ⟨c0, cr, rfl⟩ := List.exists_cons_of_ne_nil hcs
             rfl]
           refine iteT ?_
           obtain ⟨pos, c, at_⟩ := at_mod hcs a
           refine ⟨_, rfl, d, _, rfl, gt_cells h2d, _, rfl, .inl ⟨a, rfl, _, rfl, d, _, rfl, gt_cells h2d, _, cs.length, rfl, .inl ⟨_, SqL.of h2l, by rw [List.length_map]⟩, _, _, rfl, rfl, pos, l, _, _, _, rfl, rfl, SqL.of h2l, at_, ?_⟩⟩)
      all_goals
        refine ⟨_, rfl, _, rfl, d, _, rfl, gt_cells h2d, _, cs.length, rfl, .inl ⟨_, SqL.of h2l, by rw [List.length_map]⟩, _, _, rfl, rfl, _, rfl, ?_⟩
        refine ifC (fun hlt => ?_) (fun hlt => ?_)
      all_goals first
        | (refine ⟨_, rfl, 10, 18, rfl, rfl, ⟨by decide, by decide, by decide⟩, _, _, rfl, rfl, _, rfl, ?_⟩
           refine ifC (fun hge => ?_) (fun hge => ?_))
        | refine iteF ?_
      all_goals first
        | (refine ⟨_, rfl, 10, 18, rfl, rfl, ⟨by decide, by decide, by decide⟩, _, _, rfl, rfl, _, rfl, _, _, rfl, rfl, ⟨hn, hn2⟩, _, rfl, d, _, rfl, pt_left h2d, ?_⟩
           refine ⟨_, rfl, 10, 18, rfl, rfl, ⟨by decide, by decide, by decide⟩, _, _, rfl, rfl, .inl ⟨_, rfl, _, rfl, _, _, rfl, rfl, hn, ?_⟩⟩
           exact out _ _ (Int.emod_nonneg _ (by omega)) (Int.emod_lt_of_pos _ hn) (Int.ediv_nonneg (Int.sub_nonneg_of_le hge) (by omega)))
        | (refine ⟨_, rfl, .inl ⟨_, rfl, _, _, rfl, rfl, (show (0 : Int) < 2147483629 by decide), _, _, rfl, rfl, _, rfl, _, _, rfl, rfl, .inl ⟨by decide, by decide⟩, _, _, rfl, rfl, _, _, rfl, rfl, cm1 _ _,
             _, rfl, _, _, rfl, rfl, .inl ⟨by decide, by decide⟩, _, rfl, _, _, rfl, rfl, .inl ⟨by omega, by omega⟩, _, _, rfl, rfl, _, _, rfl, rfl, ?_⟩⟩
           refine ⟨_, rfl, .inl ⟨_, rfl, _, _, rfl, rfl, (show (0 : Int) < 2147483647 by decide), ?_⟩⟩
           refine ⟨_, rfl, _, rfl, _, _, rfl, rfl, _, _, rfl, rfl, cm2 _ _, .inl ⟨_, rfl, _, _, rfl, rfl, (show (0 : Int) < 2147483587 by decide), ?_⟩⟩
           refine ⟨_, rfl, _, rfl, _, _, rfl, rfl, cm3 _ _, .inl ⟨_, rfl, _, _, rfl, rfl, (show (0 : Int) < 2147483563 by decide), ?_⟩⟩
           refine ⟨_, rfl, _, _, rfl, rfl, ⟨by decide, by decide⟩, .inl ⟨_, rfl, _, rfl, _, _, rfl, rfl, hn, ?_⟩⟩
           exact out2 _ (Int.emod_nonneg _ (by omega)) (Int.emod_lt_of_pos _ hn))
end
end Wd

set_option maxHeartbeats 4000000
namespace Wd
open PySem PySem.Spec PyProof.Rows L2
/-- a def of the text: what it keeps, under its name -/
structure Df (P : Program) (w : World) (K : PySem.W.Frag) (mg : Str → Option Value) (base : Heap) (CX : CXT) (k : Nat) (x : Str) (ps : List Str) (sp : Sp) : Prop where
  ex : ∃ f fd, FnOk P w K mg base CX k f fd ps sp ∧ mg x = some (.ref f) ∧ PySem.W.keepIn K (.ref f) = true ∧ Binds K fd ps []
section
variable {X : Cx} {CX : CXT} {k : Nat} {x : Str} {ps : List Str} {sp : Sp} {E : XK} {e : Expr} {es : List Expr} {t : TA} {p pos : Pos}
theorem pe_cd (D : Df X.prog X.w X.K X.mg X.base CX k x ps sp) (hr : Room k X.A) (hx : Passes CX X E) (ha : PA X (e :: es) t) (hg : Gl X x := by rfl)
    (hdb : (x == ("__debug__" : Str)) = false := by decide)
    (he : starEach (e :: es) X.env = (false, eval e X.env) :: starEach es X.env := by rfl) (hpl : (backTo pos (starEach es X.env)).any (·.1) = false := by rfl) :
    PE X (.Call (.Name x p) (e :: es) [] pos) (tCall sp [] E t) := by
  obtain ⟨f, fd, G, hm, hk, hb⟩ := D.ex
  exact pe_call G hr hg hm hk hb .nil hx ha hdb he hpl
end
section
variable {P : Program} {w : World} {K : PySem.W.Frag} {mg : Str → Option Value} {base : Heap} {f : Addr} {fd : FuncData}
theorem scPick : FnScope ["_law_pen_here", "_law_some"] ["_law_pen_here", "_law_some"] (defScope (top 41)) := ⟨rfl, rfl, rfl, by decide +kernel, rfl, by decide +kernel, by decide +kernel⟩
structure DDraw (P : Program) (w : World) (K : PySem.W.Frag) (mg : Str → Option Value) (base : Heap) : Prop where
  law_draw : Df P w K mg base CX0 1 "_law_draw" ["_law_pen_here", "_law_many"] spDraw
theorem ok_pick (F : FnG K "_law_pick" 41 f fd) (T : TxtP mg) (D : DDraw P w K mg base) : FnOk P w K mg base CX0 2 f fd ["_law_pen_here", "_law_some"] (spPick K) := by
  refine F.ok scPick (fun vs H Q E h => ?_) (fun cdv A outer s H vs Q E hr h => ?_)
  · obtain ⟨d, l, t, a, xs, rfl, _⟩ := h
    rfl
  · obtain ⟨d, l, t, a, xs, rfl, td, hp, ha, ht, hx, hz, k⟩ := h
    refine ⟨_, PSs.nox (pss_one (ps_ret (pe_ix ix_list (pv 1) (pe_cd D.law_draw (hr.mono (by decide)) pass0 (pa_cons (pv 0) (pa_cons (pe_callB call_len (by rfl) T.len PySem.boot_len (pa_cons (pv 1) pa_nil)) pa_nil))) (fun _ _ => rfl)))), ?_⟩
    have pos : 0 < xs.length := List.length_pos_iff.mpr hx
    refine ⟨_, rfl, _, rfl, _, rfl, _, xs.length, rfl, .inl ⟨_, SqL.of ht, rfl⟩, d, l, a, xs.length, rfl, hp, ha, by omega, by omega, fun r a' H1 r0 rn g1 g2 p1 b1 => ?_⟩
    obtain ⟨j, hj⟩ := Int.eq_ofNat_of_zero_le r0
    subst hj
    have lt : j < xs.length := by omega
    exact ⟨t, xs, _, _, rfl, rfl, SqL.of (b1 t _ ht td), atI_nat (List.getElem?_eq_getElem lt), k _ a' H1 (List.getElem_mem lt) g1 g2 p1 b1⟩
end
end Wd

set_option maxHeartbeats 4000000
namespace Wd
open PySem PySem.Spec PyProof.Rows L2
theorem errC_of {K : PySem.W.Frag} {C : Addr} (h : errB K C = true) (c : clsB K = true) : ErrC K C := by
  obtain ⟨h1, h⟩ := He.ba h
  obtain ⟨h2, h⟩ := He.ba h
  obtain ⟨h3, h⟩ := He.ba h
  obtain ⟨h4, h⟩ := He.ba h
  obtain ⟨h5, h⟩ := He.ba h
  obtain ⟨h6, h7⟩ := He.ba h
  obtain ⟨c1, c2⟩ := He.ba c
  exact ⟨h1, He.eqO_ok h2, He.eqO_ok h3, of_decide_eq_true h4, h5, He.eqO_ok h6, He.eqO_ok c1, of_decide_eq_true c2, of_decide_eq_true h7⟩
theorem oexC_of {K : PySem.W.Frag} {C : Addr} (be : PySem.W.subIn K (.ref C) (.type "BaseException") = some true) (h : oexB K C = true) : OexC K C := by
  obtain ⟨h0, h⟩ := He.ba h
  obtain ⟨h1, h⟩ := He.ba h
  obtain ⟨h2, h3⟩ := He.ba h
  refine ⟨?_, He.eqO_ok h1, be, of_decide_eq_true h2, h3⟩
  split at h0
  · rename_i dd cd sl ho
    split at h0
    · rename_i C' bm k0 k1 k2 k3 n k5 hm hs
      simp only [Bool.and_eq_true, beq_iff_eq, Bool.not_eq_true'] at h0
      obtain ⟨rfl, rfl, hdel, hdict, htail⟩ := h0
      obtain ⟨nm, bs, mro, ns, qn, hd, sn, sub, ab, col, del⟩ := cd
      dsimp only at hm hdel hdict
      subst hm hdel hdict
      have hsl : sl = #[k0, k1, k2, k3, some (.builtin "ValueError.__new__"), k5] := by
        obtain ⟨l⟩ := sl
        simp only at hs
        rw [hs]
      subst hsl
      exact ⟨nm, qn, ns, bs, bm, sn, sub, ab, col, dd, k0, k1, k2, k3, k5, ho, htail⟩
    · cases h0
  · cases h0
/-! ### making an error with a field, and keeping it -/
def spIni (C : Addr) (f : Str) (K : PySem.W.Frag) : Sp := fun vs H Q _ => ∃ (a : Addr) (v : V), vs = [.ref a, v] ∧ H a = some (exo a C none) ∧
  ∀ d, H d = none → d ≠ a → Q .non (upd (upd H d (exd d [(f, v)])) a (exo a C (some d)))
/-- the error class x, of one field f -/
structure Er (P : Program) (w : World) (K : PySem.W.Frag) (mg : Str → Option Value) (base : Heap) (x f : Str) : Prop where
  glo : mg x = some (.ref (He.ga K x))
  oex : OexC K (He.ga K x)
  err : ErrC K (He.ga K x)
  nof : PySem.W.findIn K (.ref (He.ga K x)) f = some none
  ini : ∃ fI fd, PySem.W.findIn K (.ref (He.ga K x)) "__init__" = some (some (.ref fI)) ∧ PySem.W.typeIn K (.ref fI) = some (.type "function") ∧
    FnOk P w K mg base CX0 1 fI fd ["self", f] (spIni (He.ga K x) f K) ∧ Binds K fd ["self", f] []
section
variable {X : Cx} {x f : Str} {e : Expr} {ta : TA} {p pos : Pos}
theorem pe_er (D : Er X.prog X.w X.K X.mg X.base x f) (hr : Room 2 X.A) (ha : PA X [e] ta) (hg : Gl X x := by rfl)
    (hdb : (x == ("__debug__" : Str)) = false := by decide) (he : starEach [e] X.env = (false, eval e X.env) :: starEach [] X.env := by rfl)
    (hpl : (backTo pos (starEach [] X.env)).any (·.1) = false := by rfl) : PE X (.Call (.Name x p) [e] [] pos) (tErr (He.ga X.K x) (spIni (He.ga X.K x) f X.K) ta) := by
  obtain ⟨fI, fd, iC, tI, G, hb⟩ := D.ini
  exact pe_err D.oex iC tI G hr hb pass0 hg D.glo ha hdb he hpl
end
theorem same_upd {H : Hp} {a : Addr} {o : HO} (ha : H a = none) : Same H (upd H a o) := fun b z hb => by
  rw [upd_ne (ne_of_none hb ha)]
  exact hb
theorem same_two {H : Hp} {a d : Addr} {o u v : HO} (ha : H a = none) (hd : upd H a o d = none) : Same H (upd (upd (upd H a o) d u) a v) := fun b z hb => by
  have n1 := ne_of_none hb ha
  rw [upd_ne n1, upd_ne (ne_of_none (same_upd (o := o) ha b z hb) hd), upd_ne n1]
  exact hb
theorem ErrAt.same {C a : Addr} {fs : List (Str × V)} {H H' : Hp} (s : Same H H') (h : ErrAt C a fs H) : ErrAt C a fs H' := by
  rcases h with ⟨h, e⟩ | ⟨d, h1, h2⟩
  · exact .inl ⟨s _ _ h, e⟩
  · exact .inr ⟨d, s _ _ h1, s _ _ h2⟩
theorem er_at {H : Hp} {C a d : Addr} {f : Str} {v : V} (hda : d ≠ a) : ErrAt C a [(f, v)] (upd (upd (upd H a (exo a C none)) d (exd d [(f, v)])) a (exo a C (some d))) :=
  .inr ⟨d, upd_same, by rw [upd_ne hda, upd_same]⟩
theorem look1 {f : Str} {v : V} : List.lookup f [(f, v)] = some v := by simp [List.lookup]
section
variable {P : Program} {w : World} {K : PySem.W.Frag} {mg : Str → Option Value} {base : Heap} {f : Addr} {fd : FuncData}
theorem sc_BadText : FnScope ["self", "line"] ["self", "line"] (defScope (inClass (top 2) 0)) := ⟨rfl, rfl, rfl, by decide +kernel, rfl, by decide +kernel, by decide +kernel⟩
theorem ok_BadText {C : Addr} (F : FunD K "__init__" "BadText.__init__" (defArgs (inClass (top 2) 0)) (defBody (inClass (top 2) 0)) (defScope (inClass (top 2) 0)) [] [] f fd) (T : OexC K C) (n : PySem.W.findIn K (.ref C) "line" = some none) :
    FnOk P w K mg base CX0 1 f fd ["self", "line"] (spIni C "line" K) ∧ Binds K fd ["self", "line"] [] := by
  refine ⟨F.ok sc_BadText (fun vs H Q E h => ?_) (fun cdv A outer s H vs Q E hr h => ?_), F.bindsN fun _ _ _ _ _ _ us hl => match us, hl with | [_, _], _ => rfl⟩
  · obtain ⟨a, v, rfl, _⟩ := h
    rfl
  · obtain ⟨a, v, rfl, ha, k⟩ := h
    exact ⟨_, PSs.nox (pss_one (ps_ost (pv 0) (pv 1))), _, rfl, _, rfl, a, C, rfl, T, n, .inl ⟨ha, fun dx nd ne => k dx nd ne⟩⟩
theorem sc_BadName : FnScope ["self", "name"] ["self", "name"] (defScope (inClass (top 3) 0)) := ⟨rfl, rfl, rfl, by decide +kernel, rfl, by decide +kernel, by decide +kernel⟩
theorem ok_BadName {C : Addr} (F : FunD K "__init__" "BadName.__init__" (defArgs (inClass (top 3) 0)) (defBody (inClass (top 3) 0)) (defScope (inClass (top 3) 0)) [] [] f fd) (T : OexC K C) (n : PySem.W.findIn K (.ref C) "name" = some none) :
    FnOk P w K mg base CX0 1 f fd ["self", "name"] (spIni C "name" K) ∧ Binds K fd ["self", "name"] [] := by
  refine ⟨F.ok sc_BadName (fun vs H Q E h => ?_) (fun cdv A outer s H vs Q E hr h => ?_), F.bindsN fun _ _ _ _ _ _ us hl => match us, hl with | [_, _], _ => rfl⟩
  · obtain ⟨a, v, rfl, _⟩ := h
    rfl
  · obtain ⟨a, v, rfl, ha, k⟩ := h
    exact ⟨_, PSs.nox (pss_one (ps_ost (pv 0) (pv 1))), _, rfl, _, rfl, a, C, rfl, T, n, .inl ⟨ha, fun dx nd ne => k dx nd ne⟩⟩
theorem sc_NoZone : FnScope ["self", "name"] ["self", "name"] (defScope (inClass (top 4) 0)) := ⟨rfl, rfl, rfl, by decide +kernel, rfl, by decide +kernel, by decide +kernel⟩
theorem ok_NoZone {C : Addr} (F : FunD K "__init__" "NoZone.__init__" (defArgs (inClass (top 4) 0)) (defBody (inClass (top 4) 0)) (defScope (inClass (top 4) 0)) [] [] f fd) (T : OexC K C) (n : PySem.W.findIn K (.ref C) "name" = some none) :
    FnOk P w K mg base CX0 1 f fd ["self", "name"] (spIni C "name" K) ∧ Binds K fd ["self", "name"] [] := by
  refine ⟨F.ok sc_NoZone (fun vs H Q E h => ?_) (fun cdv A outer s H vs Q E hr h => ?_), F.bindsN fun _ _ _ _ _ _ us hl => match us, hl with | [_, _], _ => rfl⟩
  · obtain ⟨a, v, rfl, _⟩ := h
    rfl
  · obtain ⟨a, v, rfl, ha, k⟩ := h
    exact ⟨_, PSs.nox (pss_one (ps_ost (pv 0) (pv 1))), _, rfl, _, rfl, a, C, rfl, T, n, .inl ⟨ha, fun dx nd ne => k dx nd ne⟩⟩
theorem sc_NoProgram : FnScope ["self", "name"] ["self", "name"] (defScope (inClass (top 5) 0)) := ⟨rfl, rfl, rfl, by decide +kernel, rfl, by decide +kernel, by decide +kernel⟩
theorem ok_NoProgram {C : Addr} (F : FunD K "__init__" "NoProgram.__init__" (defArgs (inClass (top 5) 0)) (defBody (inClass (top 5) 0)) (defScope (inClass (top 5) 0)) [] [] f fd) (T : OexC K C) (n : PySem.W.findIn K (.ref C) "name" = some none) :
    FnOk P w K mg base CX0 1 f fd ["self", "name"] (spIni C "name" K) ∧ Binds K fd ["self", "name"] [] := by
  refine ⟨F.ok sc_NoProgram (fun vs H Q E h => ?_) (fun cdv A outer s H vs Q E hr h => ?_), F.bindsN fun _ _ _ _ _ _ us hl => match us, hl with | [_, _], _ => rfl⟩
  · obtain ⟨a, v, rfl, _⟩ := h
    rfl
  · obtain ⟨a, v, rfl, ha, k⟩ := h
    exact ⟨_, PSs.nox (pss_one (ps_ost (pv 0) (pv 1))), _, rfl, _, rfl, a, C, rfl, T, n, .inl ⟨ha, fun dx nd ne => k dx nd ne⟩⟩
theorem sc_NoRoute : FnScope ["self", "index"] ["self", "index"] (defScope (inClass (top 6) 0)) := ⟨rfl, rfl, rfl, by decide +kernel, rfl, by decide +kernel, by decide +kernel⟩
theorem ok_NoRoute {C : Addr} (F : FunD K "__init__" "NoRoute.__init__" (defArgs (inClass (top 6) 0)) (defBody (inClass (top 6) 0)) (defScope (inClass (top 6) 0)) [] [] f fd) (T : OexC K C) (n : PySem.W.findIn K (.ref C) "index" = some none) :
    FnOk P w K mg base CX0 1 f fd ["self", "index"] (spIni C "index" K) ∧ Binds K fd ["self", "index"] [] := by
  refine ⟨F.ok sc_NoRoute (fun vs H Q E h => ?_) (fun cdv A outer s H vs Q E hr h => ?_), F.bindsN fun _ _ _ _ _ _ us hl => match us, hl with | [_, _], _ => rfl⟩
  · obtain ⟨a, v, rfl, _⟩ := h
    rfl
  · obtain ⟨a, v, rfl, ha, k⟩ := h
    exact ⟨_, PSs.nox (pss_one (ps_ost (pv 0) (pv 1))), _, rfl, _, rfl, a, C, rfl, T, n, .inl ⟨ha, fun dx nd ne => k dx nd ne⟩⟩
theorem sc_BadPiece : FnScope ["self", "index"] ["self", "index"] (defScope (inClass (top 7) 0)) := ⟨rfl, rfl, rfl, by decide +kernel, rfl, by decide +kernel, by decide +kernel⟩
theorem ok_BadPiece {C : Addr} (F : FunD K "__init__" "BadPiece.__init__" (defArgs (inClass (top 7) 0)) (defBody (inClass (top 7) 0)) (defScope (inClass (top 7) 0)) [] [] f fd) (T : OexC K C) (n : PySem.W.findIn K (.ref C) "index" = some none) :
    FnOk P w K mg base CX0 1 f fd ["self", "index"] (spIni C "index" K) ∧ Binds K fd ["self", "index"] [] := by
  refine ⟨F.ok sc_BadPiece (fun vs H Q E h => ?_) (fun cdv A outer s H vs Q E hr h => ?_), F.bindsN fun _ _ _ _ _ _ us hl => match us, hl with | [_, _], _ => rfl⟩
  · obtain ⟨a, v, rfl, _⟩ := h
    rfl
  · obtain ⟨a, v, rfl, ha, k⟩ := h
    exact ⟨_, PSs.nox (pss_one (ps_ost (pv 0) (pv 1))), _, rfl, _, rfl, a, C, rfl, T, n, .inl ⟨ha, fun dx nd ne => k dx nd ne⟩⟩
theorem sc_BadNumber : FnScope ["self", "number"] ["self", "number"] (defScope (inClass (top 8) 0)) := ⟨rfl, rfl, rfl, by decide +kernel, rfl, by decide +kernel, by decide +kernel⟩
theorem ok_BadNumber {C : Addr} (F : FunD K "__init__" "BadNumber.__init__" (defArgs (inClass (top 8) 0)) (defBody (inClass (top 8) 0)) (defScope (inClass (top 8) 0)) [] [] f fd) (T : OexC K C) (n : PySem.W.findIn K (.ref C) "number" = some none) :
    FnOk P w K mg base CX0 1 f fd ["self", "number"] (spIni C "number" K) ∧ Binds K fd ["self", "number"] [] := by
  refine ⟨F.ok sc_BadNumber (fun vs H Q E h => ?_) (fun cdv A outer s H vs Q E hr h => ?_), F.bindsN fun _ _ _ _ _ _ us hl => match us, hl with | [_, _], _ => rfl⟩
  · obtain ⟨a, v, rfl, _⟩ := h
    rfl
  · obtain ⟨a, v, rfl, ha, k⟩ := h
    exact ⟨_, PSs.nox (pss_one (ps_ost (pv 0) (pv 1))), _, rfl, _, rfl, a, C, rfl, T, n, .inl ⟨ha, fun dx nd ne => k dx nd ne⟩⟩
theorem sc_TooMany : FnScope ["self", "most"] ["self", "most"] (defScope (inClass (top 9) 0)) := ⟨rfl, rfl, rfl, by decide +kernel, rfl, by decide +kernel, by decide +kernel⟩
theorem ok_TooMany {C : Addr} (F : FunD K "__init__" "TooMany.__init__" (defArgs (inClass (top 9) 0)) (defBody (inClass (top 9) 0)) (defScope (inClass (top 9) 0)) [] [] f fd) (T : OexC K C) (n : PySem.W.findIn K (.ref C) "most" = some none) :
    FnOk P w K mg base CX0 1 f fd ["self", "most"] (spIni C "most" K) ∧ Binds K fd ["self", "most"] [] := by
  refine ⟨F.ok sc_TooMany (fun vs H Q E h => ?_) (fun cdv A outer s H vs Q E hr h => ?_), F.bindsN fun _ _ _ _ _ _ us hl => match us, hl with | [_, _], _ => rfl⟩
  · obtain ⟨a, v, rfl, _⟩ := h
    rfl
  · obtain ⟨a, v, rfl, ha, k⟩ := h
    exact ⟨_, PSs.nox (pss_one (ps_ost (pv 0) (pv 1))), _, rfl, _, rfl, a, C, rfl, T, n, .inl ⟨ha, fun dx nd ne => k dx nd ne⟩⟩
theorem sc_BadKind : FnScope ["self", "kind"] ["self", "kind"] (defScope (inClass (top 11) 0)) := ⟨rfl, rfl, rfl, by decide +kernel, rfl, by decide +kernel, by decide +kernel⟩
theorem ok_BadKind {C : Addr} (F : FunD K "__init__" "BadKind.__init__" (defArgs (inClass (top 11) 0)) (defBody (inClass (top 11) 0)) (defScope (inClass (top 11) 0)) [] [] f fd) (T : OexC K C) (n : PySem.W.findIn K (.ref C) "kind" = some none) :
    FnOk P w K mg base CX0 1 f fd ["self", "kind"] (spIni C "kind" K) ∧ Binds K fd ["self", "kind"] [] := by
  refine ⟨F.ok sc_BadKind (fun vs H Q E h => ?_) (fun cdv A outer s H vs Q E hr h => ?_), F.bindsN fun _ _ _ _ _ _ us hl => match us, hl with | [_, _], _ => rfl⟩
  · obtain ⟨a, v, rfl, _⟩ := h
    rfl
  · obtain ⟨a, v, rfl, ha, k⟩ := h
    exact ⟨_, PSs.nox (pss_one (ps_ost (pv 0) (pv 1))), _, rfl, _, rfl, a, C, rfl, T, n, .inl ⟨ha, fun dx nd ne => k dx nd ne⟩⟩
theorem sc_BadRule : FnScope ["self", "rule"] ["self", "rule"] (defScope (inClass (top 12) 0)) := ⟨rfl, rfl, rfl, by decide +kernel, rfl, by decide +kernel, by decide +kernel⟩
theorem ok_BadRule {C : Addr} (F : FunD K "__init__" "BadRule.__init__" (defArgs (inClass (top 12) 0)) (defBody (inClass (top 12) 0)) (defScope (inClass (top 12) 0)) [] [] f fd) (T : OexC K C) (n : PySem.W.findIn K (.ref C) "rule" = some none) :
    FnOk P w K mg base CX0 1 f fd ["self", "rule"] (spIni C "rule" K) ∧ Binds K fd ["self", "rule"] [] := by
  refine ⟨F.ok sc_BadRule (fun vs H Q E h => ?_) (fun cdv A outer s H vs Q E hr h => ?_), F.bindsN fun _ _ _ _ _ _ us hl => match us, hl with | [_, _], _ => rfl⟩
  · obtain ⟨a, v, rfl, _⟩ := h
    rfl
  · obtain ⟨a, v, rfl, ha, k⟩ := h
    exact ⟨_, PSs.nox (pss_one (ps_ost (pv 0) (pv 1))), _, rfl, _, rfl, a, C, rfl, T, n, .inl ⟨ha, fun dx nd ne => k dx nd ne⟩⟩
theorem sc_BadOffsets : FnScope ["self", "offsets"] ["self", "offsets"] (defScope (inClass (top 13) 0)) := ⟨rfl, rfl, rfl, by decide +kernel, rfl, by decide +kernel, by decide +kernel⟩
theorem ok_BadOffsets {C : Addr} (F : FunD K "__init__" "BadOffsets.__init__" (defArgs (inClass (top 13) 0)) (defBody (inClass (top 13) 0)) (defScope (inClass (top 13) 0)) [] [] f fd) (T : OexC K C) (n : PySem.W.findIn K (.ref C) "offsets" = some none) :
    FnOk P w K mg base CX0 1 f fd ["self", "offsets"] (spIni C "offsets" K) ∧ Binds K fd ["self", "offsets"] [] := by
  refine ⟨F.ok sc_BadOffsets (fun vs H Q E h => ?_) (fun cdv A outer s H vs Q E hr h => ?_), F.bindsN fun _ _ _ _ _ _ us hl => match us, hl with | [_, _], _ => rfl⟩
  · obtain ⟨a, v, rfl, _⟩ := h
    rfl
  · obtain ⟨a, v, rfl, ha, k⟩ := h
    exact ⟨_, PSs.nox (pss_one (ps_ost (pv 0) (pv 1))), _, rfl, _, rfl, a, C, rfl, T, n, .inl ⟨ha, fun dx nd ne => k dx nd ne⟩⟩
theorem sc_NoHours : FnScope ["self", "program"] ["self", "program"] (defScope (inClass (top 14) 0)) := ⟨rfl, rfl, rfl, by decide +kernel, rfl, by decide +kernel, by decide +kernel⟩
theorem ok_NoHours {C : Addr} (F : FunD K "__init__" "NoHours.__init__" (defArgs (inClass (top 14) 0)) (defBody (inClass (top 14) 0)) (defScope (inClass (top 14) 0)) [] [] f fd) (T : OexC K C) (n : PySem.W.findIn K (.ref C) "program" = some none) :
    FnOk P w K mg base CX0 1 f fd ["self", "program"] (spIni C "program" K) ∧ Binds K fd ["self", "program"] [] := by
  refine ⟨F.ok sc_NoHours (fun vs H Q E h => ?_) (fun cdv A outer s H vs Q E hr h => ?_), F.bindsN fun _ _ _ _ _ _ us hl => match us, hl with | [_, _], _ => rfl⟩
  · obtain ⟨a, v, rfl, _⟩ := h
    rfl
  · obtain ⟨a, v, rfl, ha, k⟩ := h
    exact ⟨_, PSs.nox (pss_one (ps_ost (pv 0) (pv 1))), _, rfl, _, rfl, a, C, rfl, T, n, .inl ⟨ha, fun dx nd ne => k dx nd ne⟩⟩
theorem sc_BadChange : FnScope ["self", "index"] ["self", "index"] (defScope (inClass (top 15) 0)) := ⟨rfl, rfl, rfl, by decide +kernel, rfl, by decide +kernel, by decide +kernel⟩
theorem ok_BadChange {C : Addr} (F : FunD K "__init__" "BadChange.__init__" (defArgs (inClass (top 15) 0)) (defBody (inClass (top 15) 0)) (defScope (inClass (top 15) 0)) [] [] f fd) (T : OexC K C) (n : PySem.W.findIn K (.ref C) "index" = some none) :
    FnOk P w K mg base CX0 1 f fd ["self", "index"] (spIni C "index" K) ∧ Binds K fd ["self", "index"] [] := by
  refine ⟨F.ok sc_BadChange (fun vs H Q E h => ?_) (fun cdv A outer s H vs Q E hr h => ?_), F.bindsN fun _ _ _ _ _ _ us hl => match us, hl with | [_, _], _ => rfl⟩
  · obtain ⟨a, v, rfl, _⟩ := h
    rfl
  · obtain ⟨a, v, rfl, ha, k⟩ := h
    exact ⟨_, PSs.nox (pss_one (ps_ost (pv 0) (pv 1))), _, rfl, _, rfl, a, C, rfl, T, n, .inl ⟨ha, fun dx nd ne => k dx nd ne⟩⟩
theorem sc_BadLook : FnScope ["self", "index"] ["self", "index"] (defScope (inClass (top 16) 0)) := ⟨rfl, rfl, rfl, by decide +kernel, rfl, by decide +kernel, by decide +kernel⟩
theorem ok_BadLook {C : Addr} (F : FunD K "__init__" "BadLook.__init__" (defArgs (inClass (top 16) 0)) (defBody (inClass (top 16) 0)) (defScope (inClass (top 16) 0)) [] [] f fd) (T : OexC K C) (n : PySem.W.findIn K (.ref C) "index" = some none) :
    FnOk P w K mg base CX0 1 f fd ["self", "index"] (spIni C "index" K) ∧ Binds K fd ["self", "index"] [] := by
  refine ⟨F.ok sc_BadLook (fun vs H Q E h => ?_) (fun cdv A outer s H vs Q E hr h => ?_), F.bindsN fun _ _ _ _ _ _ us hl => match us, hl with | [_, _], _ => rfl⟩
  · obtain ⟨a, v, rfl, _⟩ := h
    rfl
  · obtain ⟨a, v, rfl, ha, k⟩ := h
    exact ⟨_, PSs.nox (pss_one (ps_ost (pv 0) (pv 1))), _, rfl, _, rfl, a, C, rfl, T, n, .inl ⟨ha, fun dx nd ne => k dx nd ne⟩⟩
theorem sc_TooWide : FnScope ["self", "index"] ["self", "index"] (defScope (inClass (top 17) 0)) := ⟨rfl, rfl, rfl, by decide +kernel, rfl, by decide +kernel, by decide +kernel⟩
theorem ok_TooWide {C : Addr} (F : FunD K "__init__" "TooWide.__init__" (defArgs (inClass (top 17) 0)) (defBody (inClass (top 17) 0)) (defScope (inClass (top 17) 0)) [] [] f fd) (T : OexC K C) (n : PySem.W.findIn K (.ref C) "index" = some none) :
    FnOk P w K mg base CX0 1 f fd ["self", "index"] (spIni C "index" K) ∧ Binds K fd ["self", "index"] [] := by
  refine ⟨F.ok sc_TooWide (fun vs H Q E h => ?_) (fun cdv A outer s H vs Q E hr h => ?_), F.bindsN fun _ _ _ _ _ _ us hl => match us, hl with | [_, _], _ => rfl⟩
  · obtain ⟨a, v, rfl, _⟩ := h
    rfl
  · obtain ⟨a, v, rfl, ha, k⟩ := h
    exact ⟨_, PSs.nox (pss_one (ps_ost (pv 0) (pv 1))), _, rfl, _, rfl, a, C, rfl, T, n, .inl ⟨ha, fun dx nd ne => k dx nd ne⟩⟩
theorem sc_NotTogether : FnScope ["self", "looks"] ["self", "looks"] (defScope (inClass (top 18) 0)) := ⟨rfl, rfl, rfl, by decide +kernel, rfl, by decide +kernel, by decide +kernel⟩
theorem ok_NotTogether {C : Addr} (F : FunD K "__init__" "NotTogether.__init__" (defArgs (inClass (top 18) 0)) (defBody (inClass (top 18) 0)) (defScope (inClass (top 18) 0)) [] [] f fd) (T : OexC K C) (n : PySem.W.findIn K (.ref C) "looks" = some none) :
    FnOk P w K mg base CX0 1 f fd ["self", "looks"] (spIni C "looks" K) ∧ Binds K fd ["self", "looks"] [] := by
  refine ⟨F.ok sc_NotTogether (fun vs H Q E h => ?_) (fun cdv A outer s H vs Q E hr h => ?_), F.bindsN fun _ _ _ _ _ _ us hl => match us, hl with | [_, _], _ => rfl⟩
  · obtain ⟨a, v, rfl, _⟩ := h
    rfl
  · obtain ⟨a, v, rfl, ha, k⟩ := h
    exact ⟨_, PSs.nox (pss_one (ps_ost (pv 0) (pv 1))), _, rfl, _, rfl, a, C, rfl, T, n, .inl ⟨ha, fun dx nd ne => k dx nd ne⟩⟩
theorem sc_BadEntry : FnScope ["self", "entry"] ["self", "entry"] (defScope (inClass (top 19) 0)) := ⟨rfl, rfl, rfl, by decide +kernel, rfl, by decide +kernel, by decide +kernel⟩
theorem ok_BadEntry {C : Addr} (F : FunD K "__init__" "BadEntry.__init__" (defArgs (inClass (top 19) 0)) (defBody (inClass (top 19) 0)) (defScope (inClass (top 19) 0)) [] [] f fd) (T : OexC K C) (n : PySem.W.findIn K (.ref C) "entry" = some none) :
    FnOk P w K mg base CX0 1 f fd ["self", "entry"] (spIni C "entry" K) ∧ Binds K fd ["self", "entry"] [] := by
  refine ⟨F.ok sc_BadEntry (fun vs H Q E h => ?_) (fun cdv A outer s H vs Q E hr h => ?_), F.bindsN fun _ _ _ _ _ _ us hl => match us, hl with | [_, _], _ => rfl⟩
  · obtain ⟨a, v, rfl, _⟩ := h
    rfl
  · obtain ⟨a, v, rfl, ha, k⟩ := h
    exact ⟨_, PSs.nox (pss_one (ps_ost (pv 0) (pv 1))), _, rfl, _, rfl, a, C, rfl, T, n, .inl ⟨ha, fun dx nd ne => k dx nd ne⟩⟩
theorem sc_NotARing : FnScope ["self", "names"] ["self", "names"] (defScope (inClass (top 22) 0)) := ⟨rfl, rfl, rfl, by decide +kernel, rfl, by decide +kernel, by decide +kernel⟩
theorem ok_NotARing {C : Addr} (F : FunD K "__init__" "NotARing.__init__" (defArgs (inClass (top 22) 0)) (defBody (inClass (top 22) 0)) (defScope (inClass (top 22) 0)) [] [] f fd) (T : OexC K C) (n : PySem.W.findIn K (.ref C) "names" = some none) :
    FnOk P w K mg base CX0 1 f fd ["self", "names"] (spIni C "names" K) ∧ Binds K fd ["self", "names"] [] := by
  refine ⟨F.ok sc_NotARing (fun vs H Q E h => ?_) (fun cdv A outer s H vs Q E hr h => ?_), F.bindsN fun _ _ _ _ _ _ us hl => match us, hl with | [_, _], _ => rfl⟩
  · obtain ⟨a, v, rfl, _⟩ := h
    rfl
  · obtain ⟨a, v, rfl, ha, k⟩ := h
    exact ⟨_, PSs.nox (pss_one (ps_ost (pv 0) (pv 1))), _, rfl, _, rfl, a, C, rfl, T, n, .inl ⟨ha, fun dx nd ne => k dx nd ne⟩⟩
theorem sc_NotHeld : FnScope ["self", "name"] ["self", "name"] (defScope (inClass (top 23) 0)) := ⟨rfl, rfl, rfl, by decide +kernel, rfl, by decide +kernel, by decide +kernel⟩
theorem ok_NotHeld {C : Addr} (F : FunD K "__init__" "NotHeld.__init__" (defArgs (inClass (top 23) 0)) (defBody (inClass (top 23) 0)) (defScope (inClass (top 23) 0)) [] [] f fd) (T : OexC K C) (n : PySem.W.findIn K (.ref C) "name" = some none) :
    FnOk P w K mg base CX0 1 f fd ["self", "name"] (spIni C "name" K) ∧ Binds K fd ["self", "name"] [] := by
  refine ⟨F.ok sc_NotHeld (fun vs H Q E h => ?_) (fun cdv A outer s H vs Q E hr h => ?_), F.bindsN fun _ _ _ _ _ _ us hl => match us, hl with | [_, _], _ => rfl⟩
  · obtain ⟨a, v, rfl, _⟩ := h
    rfl
  · obtain ⟨a, v, rfl, ha, k⟩ := h
    exact ⟨_, PSs.nox (pss_one (ps_ost (pv 0) (pv 1))), _, rfl, _, rfl, a, C, rfl, T, n, .inl ⟨ha, fun dx nd ne => k dx nd ne⟩⟩
theorem sc_BadDeed : FnScope ["self", "index"] ["self", "index"] (defScope (inClass (top 24) 0)) := ⟨rfl, rfl, rfl, by decide +kernel, rfl, by decide +kernel, by decide +kernel⟩
theorem ok_BadDeed {C : Addr} (F : FunD K "__init__" "BadDeed.__init__" (defArgs (inClass (top 24) 0)) (defBody (inClass (top 24) 0)) (defScope (inClass (top 24) 0)) [] [] f fd) (T : OexC K C) (n : PySem.W.findIn K (.ref C) "index" = some none) :
    FnOk P w K mg base CX0 1 f fd ["self", "index"] (spIni C "index" K) ∧ Binds K fd ["self", "index"] [] := by
  refine ⟨F.ok sc_BadDeed (fun vs H Q E h => ?_) (fun cdv A outer s H vs Q E hr h => ?_), F.bindsN fun _ _ _ _ _ _ us hl => match us, hl with | [_, _], _ => rfl⟩
  · obtain ⟨a, v, rfl, _⟩ := h
    rfl
  · obtain ⟨a, v, rfl, ha, k⟩ := h
    exact ⟨_, PSs.nox (pss_one (ps_ost (pv 0) (pv 1))), _, rfl, _, rfl, a, C, rfl, T, n, .inl ⟨ha, fun dx nd ne => k dx nd ne⟩⟩
end
end Wd

set_option maxHeartbeats 4000000
namespace Wd
open PySem PySem.Spec PyProof.Rows L2
structure Ers (P : Program) (w : World) (K : PySem.W.Frag) (mg : Str → Option Value) (base : Heap) : Prop where
  BadText : Er P w K mg base "BadText" "line"
  BadName : Er P w K mg base "BadName" "name"
  NoZone : Er P w K mg base "NoZone" "name"
  NoProgram : Er P w K mg base "NoProgram" "name"
  NoRoute : Er P w K mg base "NoRoute" "index"
  BadPiece : Er P w K mg base "BadPiece" "index"
  BadNumber : Er P w K mg base "BadNumber" "number"
  TooMany : Er P w K mg base "TooMany" "most"
  BadKind : Er P w K mg base "BadKind" "kind"
  BadRule : Er P w K mg base "BadRule" "rule"
  BadOffsets : Er P w K mg base "BadOffsets" "offsets"
  NoHours : Er P w K mg base "NoHours" "program"
  BadChange : Er P w K mg base "BadChange" "index"
  BadLook : Er P w K mg base "BadLook" "index"
  TooWide : Er P w K mg base "TooWide" "index"
  NotTogether : Er P w K mg base "NotTogether" "looks"
  BadEntry : Er P w K mg base "BadEntry" "entry"
  NotARing : Er P w K mg base "NotARing" "names"
  NotHeld : Er P w K mg base "NotHeld" "name"
  BadDeed : Er P w K mg base "BadDeed" "index"
  NothingToUndo : mg "NothingToUndo" = some (.ref (He.ga K "NothingToUndo")) ∧ PySem.W.excIn K (He.ga K "NothingToUndo") He.veBase "ValueError.__new__" = true ∧ PySem.W.keepIn K (.ref (He.ga K "NothingToUndo")) = true ∧ ErrC K (He.ga K "NothingToUndo")
  OtherPrograms : mg "OtherPrograms" = some (.ref (He.ga K "OtherPrograms")) ∧ PySem.W.excIn K (He.ga K "OtherPrograms") He.veBase "ValueError.__new__" = true ∧ PySem.W.keepIn K (.ref (He.ga K "OtherPrograms")) = true ∧ ErrC K (He.ga K "OtherPrograms")
  OtherRoutes : mg "OtherRoutes" = some (.ref (He.ga K "OtherRoutes")) ∧ PySem.W.excIn K (He.ga K "OtherRoutes") He.veBase "ValueError.__new__" = true ∧ PySem.W.keepIn K (.ref (He.ga K "OtherRoutes")) = true ∧ ErrC K (He.ga K "OtherRoutes")
def spMade (lo : Int) (K : PySem.W.Frag) : Sp := fun vs H Q _ => ∃ (n : Int) (v : V), vs = [.int n, v] ∧ lo ≤ n ∧ n ≤ 22 ∧
  ∀ p a H', Same H H' → H' p = some (.tup [.ref a, v]) → (∃ fs, ErrAt (cl K n.toNat) a fs H') → Q (.ref p) H'
section
variable {P : Program} {w : World} {K : PySem.W.Frag} {mg : Str → Option Value} {base : Heap} {f : Addr} {fd : FuncData}
theorem scLate : FnScope ["_law_k", "_law_worth_here", "_law_e"] ["_law_k", "_law_worth_here"] (defScope (top 43)) := ⟨rfl, rfl, rfl, by decide +kernel, rfl, by decide +kernel, by decide +kernel⟩
theorem ok_late (F : FnG K "_law_made_late" 43 f fd) (D : Ers P w K mg base) : FnOk P w K mg base CX0 3 f fd ["_law_k", "_law_worth_here"] (spMade 10 K) := by
  refine F.ok scLate (fun vs H Q E h => ?_) (fun cdv A outer s H vs Q E hr h => ?_)
  · obtain ⟨n, v, rfl, _⟩ := h
    rfl
  · obtain ⟨n, v, rfl, n0, n1, k⟩ := h
    refine ⟨_, PSs.nox (pss_cons (ps_if (pt_cmpR op_eq (pv 0) pe_int (nomark _)) (pss_cons (ps_set (i := 2) scLate.nd rfl (Or.inl rfl) (pe_er D.BadOffsets (hr.mono (by decide)) (pa_cons (pv 1) pa_nil)))
        (pss_one (ps_ret (pe_tup (pa_cons (pv 2) (pa_cons (pe_errF (pv 2)) pa_nil)))))) pss_nil)
        (pss_cons (ps_if (pt_cmpR op_eq (pv 0) pe_int (nomark _)) (pss_cons (ps_set (i := 2) scLate.nd rfl (Or.inl rfl) (pe_er D.NoHours (hr.mono (by decide)) (pa_cons (pv 1) pa_nil)))
        (pss_one (ps_ret (pe_tup (pa_cons (pv 2) (pa_cons (pe_errF (pv 2)) pa_nil)))))) pss_nil)
        (pss_cons (ps_if (pt_cmpR op_eq (pv 0) pe_int (nomark _)) (pss_cons (ps_set (i := 2) scLate.nd rfl (Or.inl rfl) (pe_er D.BadChange (hr.mono (by decide)) (pa_cons (pv 1) pa_nil)))
        (pss_one (ps_ret (pe_tup (pa_cons (pv 2) (pa_cons (pe_errF (pv 2)) pa_nil)))))) pss_nil)
        (pss_cons (ps_if (pt_cmpR op_eq (pv 0) pe_int (nomark _)) (pss_cons (ps_set (i := 2) scLate.nd rfl (Or.inl rfl) (pe_er D.BadLook (hr.mono (by decide)) (pa_cons (pv 1) pa_nil)))
        (pss_one (ps_ret (pe_tup (pa_cons (pv 2) (pa_cons (pe_errF (pv 2)) pa_nil)))))) pss_nil)
        (pss_cons (ps_if (pt_cmpR op_eq (pv 0) pe_int (nomark _)) (pss_cons (ps_set (i := 2) scLate.nd rfl (Or.inl rfl) (pe_er D.TooWide (hr.mono (by decide)) (pa_cons (pv 1) pa_nil)))
        (pss_one (ps_ret (pe_tup (pa_cons (pv 2) (pa_cons (pe_errF (pv 2)) pa_nil)))))) pss_nil)
        (pss_cons (ps_if (pt_cmpR op_eq (pv 0) pe_int (nomark _)) (pss_cons (ps_set (i := 2) scLate.nd rfl (Or.inl rfl) (pe_er D.NotTogether (hr.mono (by decide)) (pa_cons (pv 1) pa_nil)))
        (pss_one (ps_ret (pe_tup (pa_cons (pv 2) (pa_cons (pe_errF (pv 2)) pa_nil)))))) pss_nil)
        (pss_cons (ps_if (pt_cmpR op_eq (pv 0) pe_int (nomark _)) (pss_cons (ps_set (i := 2) scLate.nd rfl (Or.inl rfl) (pe_er D.BadEntry (hr.mono (by decide)) (pa_cons (pv 1) pa_nil)))
        (pss_one (ps_ret (pe_tup (pa_cons (pv 2) (pa_cons (pe_errF (pv 2)) pa_nil)))))) pss_nil)
        (pss_cons (ps_if (pt_cmpR op_eq (pv 0) pe_int (nomark _)) (pss_cons (ps_set (i := 2) scLate.nd rfl (Or.inl rfl) (pe_er D.NotARing (hr.mono (by decide)) (pa_cons (pv 1) pa_nil)))
        (pss_one (ps_ret (pe_tup (pa_cons (pv 2) (pa_cons (pe_errF (pv 2)) pa_nil)))))) pss_nil)
        (pss_cons (ps_if (pt_cmpR op_eq (pv 0) pe_int (nomark _)) (pss_cons (ps_set (i := 2) scLate.nd rfl (Or.inl rfl) (pe_er D.NotHeld (hr.mono (by decide)) (pa_cons (pv 1) pa_nil)))
        (pss_one (ps_ret (pe_tup (pa_cons (pv 2) (pa_cons (pe_errF (pv 2)) pa_nil)))))) pss_nil)
        (pss_cons (ps_if (pt_cmpR op_eq (pv 0) pe_int (nomark _)) (pss_cons (ps_set (i := 2) scLate.nd rfl (Or.inl rfl) (pe_er D.BadDeed (hr.mono (by decide)) (pa_cons (pv 1) pa_nil)))
        (pss_one (ps_ret (pe_tup (pa_cons (pv 2) (pa_cons (pe_errF (pv 2)) pa_nil)))))) pss_nil)
        (pss_cons (ps_if (pt_cmpR op_eq (pv 0) pe_int (nomark _)) (pss_one (ps_ret (pe_tup (pa_cons (pe_err0 D.NothingToUndo.2.1 D.NothingToUndo.1 D.NothingToUndo.2.2.1 rfl) (pa_cons (pv 1) pa_nil))))) pss_nil)
        (pss_cons (ps_if (pt_cmpR op_eq (pv 0) pe_int (nomark _)) (pss_one (ps_ret (pe_tup (pa_cons (pe_err0 D.OtherPrograms.2.1 D.OtherPrograms.1 D.OtherPrograms.2.2.1 rfl) (pa_cons (pv 1) pa_nil))))) pss_nil)
        (pss_one (ps_ret (pe_tup (pa_cons (pe_err0 D.OtherRoutes.2.1 D.OtherRoutes.1 D.OtherRoutes.2.2.1 rfl) (pa_cons (pv 1) pa_nil))))))))))))))))), ?_⟩
    refine ⟨_, rfl, rfl, _, rfl, ?_⟩
    refine ifC (fun hk => ?_) (fun hk10 => ?_)
    · obtain rfl : n = 10 := V.int.inj hk
      refine ⟨_, rfl, (by show 1 ≤ 1000; decide), fun a ha => ⟨a, v, rfl, upd_same, fun d hd hda => ⟨rfl, ?_⟩⟩⟩
      have at_ := er_at (H := H) (C := He.ga K "BadOffsets") (f := "offsets") (v := v) hda
      have sm := same_two (o := exo a (He.ga K "BadOffsets") none) (u := exd d [("offsets", v)]) (v := exo a (He.ga K "BadOffsets") (some d)) ha hd
      refine ⟨_, rfl, _, rfl, a, _, _, _, rfl, D.BadOffsets.err, D.BadOffsets.nof, at_, look1, (by show 2 ≤ sizeLine; decide), fun p hp => ?_⟩
      exact k p a _ (sm.trans (same_upd hp)) upd_same ⟨_, at_.same (same_upd hp)⟩
    refine ⟨_, rfl, rfl, _, rfl, ?_⟩
    refine ifC (fun hk => ?_) (fun hk11 => ?_)
    · obtain rfl : n = 11 := V.int.inj hk
      refine ⟨_, rfl, (by show 1 ≤ 1000; decide), fun a ha => ⟨a, v, rfl, upd_same, fun d hd hda => ⟨rfl, ?_⟩⟩⟩
      have at_ := er_at (H := H) (C := He.ga K "NoHours") (f := "program") (v := v) hda
      have sm := same_two (o := exo a (He.ga K "NoHours") none) (u := exd d [("program", v)]) (v := exo a (He.ga K "NoHours") (some d)) ha hd
      refine ⟨_, rfl, _, rfl, a, _, _, _, rfl, D.NoHours.err, D.NoHours.nof, at_, look1, (by show 2 ≤ sizeLine; decide), fun p hp => ?_⟩
      exact k p a _ (sm.trans (same_upd hp)) upd_same ⟨_, at_.same (same_upd hp)⟩
    refine ⟨_, rfl, rfl, _, rfl, ?_⟩
    refine ifC (fun hk => ?_) (fun hk12 => ?_)
    · obtain rfl : n = 12 := V.int.inj hk
      refine ⟨_, rfl, (by show 1 ≤ 1000; decide), fun a ha => ⟨a, v, rfl, upd_same, fun d hd hda => ⟨rfl, ?_⟩⟩⟩
      have at_ := er_at (H := H) (C := He.ga K "BadChange") (f := "index") (v := v) hda
      have sm := same_two (o := exo a (He.ga K "BadChange") none) (u := exd d [("index", v)]) (v := exo a (He.ga K "BadChange") (some d)) ha hd
      refine ⟨_, rfl, _, rfl, a, _, _, _, rfl, D.BadChange.err, D.BadChange.nof, at_, look1, (by show 2 ≤ sizeLine; decide), fun p hp => ?_⟩
      exact k p a _ (sm.trans (same_upd hp)) upd_same ⟨_, at_.same (same_upd hp)⟩
    refine ⟨_, rfl, rfl, _, rfl, ?_⟩
    refine ifC (fun hk => ?_) (fun hk13 => ?_)
    · obtain rfl : n = 13 := V.int.inj hk
      refine ⟨_, rfl, (by show 1 ≤ 1000; decide), fun a ha => ⟨a, v, rfl, upd_same, fun d hd hda => ⟨rfl, ?_⟩⟩⟩
      have at_ := er_at (H := H) (C := He.ga K "BadLook") (f := "index") (v := v) hda
      have sm := same_two (o := exo a (He.ga K "BadLook") none) (u := exd d [("index", v)]) (v := exo a (He.ga K "BadLook") (some d)) ha hd
      refine ⟨_, rfl, _, rfl, a, _, _, _, rfl, D.BadLook.err, D.BadLook.nof, at_, look1, (by show 2 ≤ sizeLine; decide), fun p hp => ?_⟩
      exact k p a _ (sm.trans (same_upd hp)) upd_same ⟨_, at_.same (same_upd hp)⟩
    refine ⟨_, rfl, rfl, _, rfl, ?_⟩
    refine ifC (fun hk => ?_) (fun hk14 => ?_)
    · obtain rfl : n = 14 := V.int.inj hk
      refine ⟨_, rfl, (by show 1 ≤ 1000; decide), fun a ha => ⟨a, v, rfl, upd_same, fun d hd hda => ⟨rfl, ?_⟩⟩⟩
      have at_ := er_at (H := H) (C := He.ga K "TooWide") (f := "index") (v := v) hda
      have sm := same_two (o := exo a (He.ga K "TooWide") none) (u := exd d [("index", v)]) (v := exo a (He.ga K "TooWide") (some d)) ha hd
      refine ⟨_, rfl, _, rfl, a, _, _, _, rfl, D.TooWide.err, D.TooWide.nof, at_, look1, (by show 2 ≤ sizeLine; decide), fun p hp => ?_⟩
      exact k p a _ (sm.trans (same_upd hp)) upd_same ⟨_, at_.same (same_upd hp)⟩
    refine ⟨_, rfl, rfl, _, rfl, ?_⟩
    refine ifC (fun hk => ?_) (fun hk15 => ?_)
    · obtain rfl : n = 15 := V.int.inj hk
      refine ⟨_, rfl, (by show 1 ≤ 1000; decide), fun a ha => ⟨a, v, rfl, upd_same, fun d hd hda => ⟨rfl, ?_⟩⟩⟩
      have at_ := er_at (H := H) (C := He.ga K "NotTogether") (f := "looks") (v := v) hda
      have sm := same_two (o := exo a (He.ga K "NotTogether") none) (u := exd d [("looks", v)]) (v := exo a (He.ga K "NotTogether") (some d)) ha hd
      refine ⟨_, rfl, _, rfl, a, _, _, _, rfl, D.NotTogether.err, D.NotTogether.nof, at_, look1, (by show 2 ≤ sizeLine; decide), fun p hp => ?_⟩
      exact k p a _ (sm.trans (same_upd hp)) upd_same ⟨_, at_.same (same_upd hp)⟩
    refine ⟨_, rfl, rfl, _, rfl, ?_⟩
    refine ifC (fun hk => ?_) (fun hk16 => ?_)
    · obtain rfl : n = 16 := V.int.inj hk
      refine ⟨_, rfl, (by show 1 ≤ 1000; decide), fun a ha => ⟨a, v, rfl, upd_same, fun d hd hda => ⟨rfl, ?_⟩⟩⟩
      have at_ := er_at (H := H) (C := He.ga K "BadEntry") (f := "entry") (v := v) hda
      have sm := same_two (o := exo a (He.ga K "BadEntry") none) (u := exd d [("entry", v)]) (v := exo a (He.ga K "BadEntry") (some d)) ha hd
      refine ⟨_, rfl, _, rfl, a, _, _, _, rfl, D.BadEntry.err, D.BadEntry.nof, at_, look1, (by show 2 ≤ sizeLine; decide), fun p hp => ?_⟩
      exact k p a _ (sm.trans (same_upd hp)) upd_same ⟨_, at_.same (same_upd hp)⟩
    refine ⟨_, rfl, rfl, _, rfl, ?_⟩
    refine ifC (fun hk => ?_) (fun hk17 => ?_)
    · obtain rfl : n = 17 := V.int.inj hk
      refine ⟨_, rfl, (by show 1 ≤ 1000; decide), fun a ha => ⟨a, v, rfl, upd_same, fun d hd hda => ⟨rfl, ?_⟩⟩⟩
      have at_ := er_at (H := H) (C := He.ga K "NotARing") (f := "names") (v := v) hda
      have sm := same_two (o := exo a (He.ga K "NotARing") none) (u := exd d [("names", v)]) (v := exo a (He.ga K "NotARing") (some d)) ha hd
      refine ⟨_, rfl, _, rfl, a, _, _, _, rfl, D.NotARing.err, D.NotARing.nof, at_, look1, (by show 2 ≤ sizeLine; decide), fun p hp => ?_⟩
      exact k p a _ (sm.trans (same_upd hp)) upd_same ⟨_, at_.same (same_upd hp)⟩
    refine ⟨_, rfl, rfl, _, rfl, ?_⟩
    refine ifC (fun hk => ?_) (fun hk18 => ?_)
    · obtain rfl : n = 18 := V.int.inj hk
      refine ⟨_, rfl, (by show 1 ≤ 1000; decide), fun a ha => ⟨a, v, rfl, upd_same, fun d hd hda => ⟨rfl, ?_⟩⟩⟩
      have at_ := er_at (H := H) (C := He.ga K "NotHeld") (f := "name") (v := v) hda
      have sm := same_two (o := exo a (He.ga K "NotHeld") none) (u := exd d [("name", v)]) (v := exo a (He.ga K "NotHeld") (some d)) ha hd
      refine ⟨_, rfl, _, rfl, a, _, _, _, rfl, D.NotHeld.err, D.NotHeld.nof, at_, look1, (by show 2 ≤ sizeLine; decide), fun p hp => ?_⟩
      exact k p a _ (sm.trans (same_upd hp)) upd_same ⟨_, at_.same (same_upd hp)⟩
    refine ⟨_, rfl, rfl, _, rfl, ?_⟩
    refine ifC (fun hk => ?_) (fun hk19 => ?_)
    · obtain rfl : n = 19 := V.int.inj hk
      refine ⟨_, rfl, (by show 1 ≤ 1000; decide), fun a ha => ⟨a, v, rfl, upd_same, fun d hd hda => ⟨rfl, ?_⟩⟩⟩
      have at_ := er_at (H := H) (C := He.ga K "BadDeed") (f := "index") (v := v) hda
      have sm := same_two (o := exo a (He.ga K "BadDeed") none) (u := exd d [("index", v)]) (v := exo a (He.ga K "BadDeed") (some d)) ha hd
      refine ⟨_, rfl, _, rfl, a, _, _, _, rfl, D.BadDeed.err, D.BadDeed.nof, at_, look1, (by show 2 ≤ sizeLine; decide), fun p hp => ?_⟩
      exact k p a _ (sm.trans (same_upd hp)) upd_same ⟨_, at_.same (same_upd hp)⟩
    refine ⟨_, rfl, rfl, _, rfl, ?_⟩
    refine ifC (fun hk => ?_) (fun hk20 => ?_)
    · obtain rfl : n = 20 := V.int.inj hk
      refine fun a ha => ⟨_, rfl, (by show 2 ≤ sizeLine; decide), fun p hp => ?_⟩
      exact k p a _ ((same_upd ha).trans (same_upd hp)) upd_same ⟨[], ErrAt.same (same_upd hp) (.inl ⟨upd_same, rfl⟩)⟩
    refine ⟨_, rfl, rfl, _, rfl, ?_⟩
    refine ifC (fun hk => ?_) (fun hk21 => ?_)
    · obtain rfl : n = 21 := V.int.inj hk
      refine fun a ha => ⟨_, rfl, (by show 2 ≤ sizeLine; decide), fun p hp => ?_⟩
      exact k p a _ ((same_upd ha).trans (same_upd hp)) upd_same ⟨[], ErrAt.same (same_upd hp) (.inl ⟨upd_same, rfl⟩)⟩
    obtain rfl : n = 22 := by
      have h : ∀ j : Int, ¬ (V.int n = V.int j) → n ≠ j := fun j hn e => hn (by rw [e])
      have := h 10 hk10
      have := h 11 hk11
      have := h 12 hk12
      have := h 13 hk13
      have := h 14 hk14
      have := h 15 hk15
      have := h 16 hk16
      have := h 17 hk17
      have := h 18 hk18
      have := h 19 hk19
      have := h 20 hk20
      have := h 21 hk21
      omega
    refine fun a ha => ⟨_, rfl, (by show 2 ≤ sizeLine; decide), fun p hp => ?_⟩
    exact k p a _ ((same_upd ha).trans (same_upd hp)) upd_same ⟨[], ErrAt.same (same_upd hp) (.inl ⟨upd_same, rfl⟩)⟩
structure DLate (P : Program) (w : World) (K : PySem.W.Frag) (mg : Str → Option Value) (base : Heap) : Prop extends Ers P w K mg base where
  law_made_late : Df P w K mg base CX0 3 "_law_made_late" ["_law_k", "_law_worth_here"] (spMade 10 K)
theorem scEarly : FnScope ["_law_k", "_law_worth_here", "_law_e"] ["_law_k", "_law_worth_here"] (defScope (top 42)) := ⟨rfl, rfl, rfl, by decide +kernel, rfl, by decide +kernel, by decide +kernel⟩
theorem ok_early (F : FnG K "_law_made_early" 42 f fd) (D : DLate P w K mg base) : FnOk P w K mg base CX0 4 f fd ["_law_k", "_law_worth_here"] (spMade 0 K) := by
  refine F.ok scEarly (fun vs H Q E h => ?_) (fun cdv A outer s H vs Q E hr h => ?_)
  · obtain ⟨n, v, rfl, _⟩ := h
    rfl
  · obtain ⟨n, v, rfl, n0, n1, k⟩ := h
    refine ⟨_, PSs.nox (pss_cons (ps_if (pt_cmpR op_eq (pv 0) pe_int (nomark _)) (pss_cons (ps_set (i := 2) scEarly.nd rfl (Or.inl rfl) (pe_er D.BadText (hr.mono (by decide)) (pa_cons (pv 1) pa_nil)))
        (pss_one (ps_ret (pe_tup (pa_cons (pv 2) (pa_cons (pe_errF (pv 2)) pa_nil)))))) pss_nil)
        (pss_cons (ps_if (pt_cmpR op_eq (pv 0) pe_int (nomark _)) (pss_cons (ps_set (i := 2) scEarly.nd rfl (Or.inl rfl) (pe_er D.BadName (hr.mono (by decide)) (pa_cons (pv 1) pa_nil)))
        (pss_one (ps_ret (pe_tup (pa_cons (pv 2) (pa_cons (pe_errF (pv 2)) pa_nil)))))) pss_nil)
        (pss_cons (ps_if (pt_cmpR op_eq (pv 0) pe_int (nomark _)) (pss_cons (ps_set (i := 2) scEarly.nd rfl (Or.inl rfl) (pe_er D.NoZone (hr.mono (by decide)) (pa_cons (pv 1) pa_nil)))
        (pss_one (ps_ret (pe_tup (pa_cons (pv 2) (pa_cons (pe_errF (pv 2)) pa_nil)))))) pss_nil)
        (pss_cons (ps_if (pt_cmpR op_eq (pv 0) pe_int (nomark _)) (pss_cons (ps_set (i := 2) scEarly.nd rfl (Or.inl rfl) (pe_er D.NoProgram (hr.mono (by decide)) (pa_cons (pv 1) pa_nil)))
        (pss_one (ps_ret (pe_tup (pa_cons (pv 2) (pa_cons (pe_errF (pv 2)) pa_nil)))))) pss_nil)
        (pss_cons (ps_if (pt_cmpR op_eq (pv 0) pe_int (nomark _)) (pss_cons (ps_set (i := 2) scEarly.nd rfl (Or.inl rfl) (pe_er D.NoRoute (hr.mono (by decide)) (pa_cons (pv 1) pa_nil)))
        (pss_one (ps_ret (pe_tup (pa_cons (pv 2) (pa_cons (pe_errF (pv 2)) pa_nil)))))) pss_nil)
        (pss_cons (ps_if (pt_cmpR op_eq (pv 0) pe_int (nomark _)) (pss_cons (ps_set (i := 2) scEarly.nd rfl (Or.inl rfl) (pe_er D.BadPiece (hr.mono (by decide)) (pa_cons (pv 1) pa_nil)))
        (pss_one (ps_ret (pe_tup (pa_cons (pv 2) (pa_cons (pe_errF (pv 2)) pa_nil)))))) pss_nil)
        (pss_cons (ps_if (pt_cmpR op_eq (pv 0) pe_int (nomark _)) (pss_cons (ps_set (i := 2) scEarly.nd rfl (Or.inl rfl) (pe_er D.BadNumber (hr.mono (by decide)) (pa_cons (pv 1) pa_nil)))
        (pss_one (ps_ret (pe_tup (pa_cons (pv 2) (pa_cons (pe_errF (pv 2)) pa_nil)))))) pss_nil)
        (pss_cons (ps_if (pt_cmpR op_eq (pv 0) pe_int (nomark _)) (pss_cons (ps_set (i := 2) scEarly.nd rfl (Or.inl rfl) (pe_er D.TooMany (hr.mono (by decide)) (pa_cons (pv 1) pa_nil)))
        (pss_one (ps_ret (pe_tup (pa_cons (pv 2) (pa_cons (pe_errF (pv 2)) pa_nil)))))) pss_nil)
        (pss_cons (ps_if (pt_cmpR op_eq (pv 0) pe_int (nomark _)) (pss_cons (ps_set (i := 2) scEarly.nd rfl (Or.inl rfl) (pe_er D.BadKind (hr.mono (by decide)) (pa_cons (pv 1) pa_nil)))
        (pss_one (ps_ret (pe_tup (pa_cons (pv 2) (pa_cons (pe_errF (pv 2)) pa_nil)))))) pss_nil)
        (pss_cons (ps_if (pt_cmpR op_eq (pv 0) pe_int (nomark _)) (pss_cons (ps_set (i := 2) scEarly.nd rfl (Or.inl rfl) (pe_er D.BadRule (hr.mono (by decide)) (pa_cons (pv 1) pa_nil)))
        (pss_one (ps_ret (pe_tup (pa_cons (pv 2) (pa_cons (pe_errF (pv 2)) pa_nil)))))) pss_nil)
        (pss_one (ps_ret (pe_cd D.law_made_late (hr.mono (by decide)) pass0 (pa_cons (pv 0) (pa_cons (pv 1) pa_nil))))))))))))))), ?_⟩
    refine ⟨_, rfl, rfl, _, rfl, ?_⟩
    refine ifC (fun hk => ?_) (fun hk0 => ?_)
    · obtain rfl : n = 0 := V.int.inj hk
      refine ⟨_, rfl, (by show 1 ≤ 1000; decide), fun a ha => ⟨a, v, rfl, upd_same, fun d hd hda => ⟨rfl, ?_⟩⟩⟩
      have at_ := er_at (H := H) (C := He.ga K "BadText") (f := "line") (v := v) hda
      have sm := same_two (o := exo a (He.ga K "BadText") none) (u := exd d [("line", v)]) (v := exo a (He.ga K "BadText") (some d)) ha hd
      refine ⟨_, rfl, _, rfl, a, _, _, _, rfl, D.BadText.err, D.BadText.nof, at_, look1, (by show 2 ≤ sizeLine; decide), fun p hp => ?_⟩
      exact k p a _ (sm.trans (same_upd hp)) upd_same ⟨_, at_.same (same_upd hp)⟩
    refine ⟨_, rfl, rfl, _, rfl, ?_⟩
    refine ifC (fun hk => ?_) (fun hk1 => ?_)
    · obtain rfl : n = 1 := V.int.inj hk
      refine ⟨_, rfl, (by show 1 ≤ 1000; decide), fun a ha => ⟨a, v, rfl, upd_same, fun d hd hda => ⟨rfl, ?_⟩⟩⟩
      have at_ := er_at (H := H) (C := He.ga K "BadName") (f := "name") (v := v) hda
      have sm := same_two (o := exo a (He.ga K "BadName") none) (u := exd d [("name", v)]) (v := exo a (He.ga K "BadName") (some d)) ha hd
      refine ⟨_, rfl, _, rfl, a, _, _, _, rfl, D.BadName.err, D.BadName.nof, at_, look1, (by show 2 ≤ sizeLine; decide), fun p hp => ?_⟩
      exact k p a _ (sm.trans (same_upd hp)) upd_same ⟨_, at_.same (same_upd hp)⟩
    refine ⟨_, rfl, rfl, _, rfl, ?_⟩
    refine ifC (fun hk => ?_) (fun hk2 => ?_)
    · obtain rfl : n = 2 := V.int.inj hk
      refine ⟨_, rfl, (by show 1 ≤ 1000; decide), fun a ha => ⟨a, v, rfl, upd_same, fun d hd hda => ⟨rfl, ?_⟩⟩⟩
      have at_ := er_at (H := H) (C := He.ga K "NoZone") (f := "name") (v := v) hda
      have sm := same_two (o := exo a (He.ga K "NoZone") none) (u := exd d [("name", v)]) (v := exo a (He.ga K "NoZone") (some d)) ha hd
      refine ⟨_, rfl, _, rfl, a, _, _, _, rfl, D.NoZone.err, D.NoZone.nof, at_, look1, (by show 2 ≤ sizeLine; decide), fun p hp => ?_⟩
      exact k p a _ (sm.trans (same_upd hp)) upd_same ⟨_, at_.same (same_upd hp)⟩
    refine ⟨_, rfl, rfl, _, rfl, ?_⟩
    refine ifC (fun hk => ?_) (fun hk3 => ?_)
    · obtain rfl : n = 3 := V.int.inj hk
      refine ⟨_, rfl, (by show 1 ≤ 1000; decide), fun a ha => ⟨a, v, rfl, upd_same, fun d hd hda => ⟨rfl, ?_⟩⟩⟩
      have at_ := er_at (H := H) (C := He.ga K "NoProgram") (f := "name") (v := v) hda
      have sm := same_two (o := exo a (He.ga K "NoProgram") none) (u := exd d [("name", v)]) (v := exo a (He.ga K "NoProgram") (some d)) ha hd
      refine ⟨_, rfl, _, rfl, a, _, _, _, rfl, D.NoProgram.err, D.NoProgram.nof, at_, look1, (by show 2 ≤ sizeLine; decide), fun p hp => ?_⟩
      exact k p a _ (sm.trans (same_upd hp)) upd_same ⟨_, at_.same (same_upd hp)⟩
    refine ⟨_, rfl, rfl, _, rfl, ?_⟩
    refine ifC (fun hk => ?_) (fun hk4 => ?_)
    · obtain rfl : n = 4 := V.int.inj hk
      refine ⟨_, rfl, (by show 1 ≤ 1000; decide), fun a ha => ⟨a, v, rfl, upd_same, fun d hd hda => ⟨rfl, ?_⟩⟩⟩
      have at_ := er_at (H := H) (C := He.ga K "NoRoute") (f := "index") (v := v) hda
      have sm := same_two (o := exo a (He.ga K "NoRoute") none) (u := exd d [("index", v)]) (v := exo a (He.ga K "NoRoute") (some d)) ha hd
      refine ⟨_, rfl, _, rfl, a, _, _, _, rfl, D.NoRoute.err, D.NoRoute.nof, at_, look1, (by show 2 ≤ sizeLine; decide), fun p hp => ?_⟩
      exact k p a _ (sm.trans (same_upd hp)) upd_same ⟨_, at_.same (same_upd hp)⟩
    refine ⟨_, rfl, rfl, _, rfl, ?_⟩
    refine ifC (fun hk => ?_) (fun hk5 => ?_)
    · obtain rfl : n = 5 := V.int.inj hk
      refine ⟨_, rfl, (by show 1 ≤ 1000; decide), fun a ha => ⟨a, v, rfl, upd_same, fun d hd hda => ⟨rfl, ?_⟩⟩⟩
      have at_ := er_at (H := H) (C := He.ga K "BadPiece") (f := "index") (v := v) hda
      have sm := same_two (o := exo a (He.ga K "BadPiece") none) (u := exd d [("index", v)]) (v := exo a (He.ga K "BadPiece") (some d)) ha hd
      refine ⟨_, rfl, _, rfl, a, _, _, _, rfl, D.BadPiece.err, D.BadPiece.nof, at_, look1, (by show 2 ≤ sizeLine; decide), fun p hp => ?_⟩
      exact k p a _ (sm.trans (same_upd hp)) upd_same ⟨_, at_.same (same_upd hp)⟩
    refine ⟨_, rfl, rfl, _, rfl, ?_⟩
    refine ifC (fun hk => ?_) (fun hk6 => ?_)
    · obtain rfl : n = 6 := V.int.inj hk
      refine ⟨_, rfl, (by show 1 ≤ 1000; decide), fun a ha => ⟨a, v, rfl, upd_same, fun d hd hda => ⟨rfl, ?_⟩⟩⟩
      have at_ := er_at (H := H) (C := He.ga K "BadNumber") (f := "number") (v := v) hda
      have sm := same_two (o := exo a (He.ga K "BadNumber") none) (u := exd d [("number", v)]) (v := exo a (He.ga K "BadNumber") (some d)) ha hd
      refine ⟨_, rfl, _, rfl, a, _, _, _, rfl, D.BadNumber.err, D.BadNumber.nof, at_, look1, (by show 2 ≤ sizeLine; decide), fun p hp => ?_⟩
      exact k p a _ (sm.trans (same_upd hp)) upd_same ⟨_, at_.same (same_upd hp)⟩
    refine ⟨_, rfl, rfl, _, rfl, ?_⟩
    refine ifC (fun hk => ?_) (fun hk7 => ?_)
    · obtain rfl : n = 7 := V.int.inj hk
      refine ⟨_, rfl, (by show 1 ≤ 1000; decide), fun a ha => ⟨a, v, rfl, upd_same, fun d hd hda => ⟨rfl, ?_⟩⟩⟩
      have at_ := er_at (H := H) (C := He.ga K "TooMany") (f := "most") (v := v) hda
      have sm := same_two (o := exo a (He.ga K "TooMany") none) (u := exd d [("most", v)]) (v := exo a (He.ga K "TooMany") (some d)) ha hd
      refine ⟨_, rfl, _, rfl, a, _, _, _, rfl, D.TooMany.err, D.TooMany.nof, at_, look1, (by show 2 ≤ sizeLine; decide), fun p hp => ?_⟩
      exact k p a _ (sm.trans (same_upd hp)) upd_same ⟨_, at_.same (same_upd hp)⟩
    refine ⟨_, rfl, rfl, _, rfl, ?_⟩
    refine ifC (fun hk => ?_) (fun hk8 => ?_)
    · obtain rfl : n = 8 := V.int.inj hk
      refine ⟨_, rfl, (by show 1 ≤ 1000; decide), fun a ha => ⟨a, v, rfl, upd_same, fun d hd hda => ⟨rfl, ?_⟩⟩⟩
      have at_ := er_at (H := H) (C := He.ga K "BadKind") (f := "kind") (v := v) hda
      have sm := same_two (o := exo a (He.ga K "BadKind") none) (u := exd d [("kind", v)]) (v := exo a (He.ga K "BadKind") (some d)) ha hd
      refine ⟨_, rfl, _, rfl, a, _, _, _, rfl, D.BadKind.err, D.BadKind.nof, at_, look1, (by show 2 ≤ sizeLine; decide), fun p hp => ?_⟩
      exact k p a _ (sm.trans (same_upd hp)) upd_same ⟨_, at_.same (same_upd hp)⟩
    refine ⟨_, rfl, rfl, _, rfl, ?_⟩
    refine ifC (fun hk => ?_) (fun hk9 => ?_)
    · obtain rfl : n = 9 := V.int.inj hk
      refine ⟨_, rfl, (by show 1 ≤ 1000; decide), fun a ha => ⟨a, v, rfl, upd_same, fun d hd hda => ⟨rfl, ?_⟩⟩⟩
      have at_ := er_at (H := H) (C := He.ga K "BadRule") (f := "rule") (v := v) hda
      have sm := same_two (o := exo a (He.ga K "BadRule") none) (u := exd d [("rule", v)]) (v := exo a (He.ga K "BadRule") (some d)) ha hd
      refine ⟨_, rfl, _, rfl, a, _, _, _, rfl, D.BadRule.err, D.BadRule.nof, at_, look1, (by show 2 ≤ sizeLine; decide), fun p hp => ?_⟩
      exact k p a _ (sm.trans (same_upd hp)) upd_same ⟨_, at_.same (same_upd hp)⟩
    have n10 : 10 ≤ n := by
      have h : ∀ j : Int, ¬ (V.int n = V.int j) → n ≠ j := fun j hn e => hn (by rw [e])
      have := h 0 hk0
      have := h 1 hk1
      have := h 2 hk2
      have := h 3 hk3
      have := h 4 hk4
      have := h 5 hk5
      have := h 6 hk6
      have := h 7 hk7
      have := h 8 hk8
      have := h 9 hk9
      omega
    exact ⟨_, rfl, _, rfl, n, v, rfl, n10, n1, k⟩
end
end Wd

set_option maxHeartbeats 4000000
namespace Wd
open PySem PySem.Spec PyProof.Rows L2
structure DKinds (P : Program) (w : World) (K : PySem.W.Frag) (mg : Str → Option Value) (base : Heap) : Prop extends Ers P w K mg base where
  isinstance : mg "isinstance" = none
  errA : ∀ i, i < 23 → ErrC K (cl K i)
  kit : ∀ i j, i < 23 → j < 23 → PySem.W.kitOne K (.ref (cl K i)) (.ref (cl K j)) = some (decide (i = j))
def spKinds (K : PySem.W.Frag) : Sp := fun vs H Q _ => ∃ (a : Addr) (i : Nat) (fs : List (Str × V)), vs = [.ref a] ∧ i < 23 ∧ ErrAt (cl K i) a fs H ∧
  ∀ p H', Same H H' → H' p = some (.lst ((List.range 23).map fun j => V.bl (decide (i = j)))) → Q (.ref p) H'
section
variable {P : Program} {w : World} {K : PySem.W.Frag} {mg : Str → Option Value} {base : Heap} {f : Addr} {fd : FuncData}
theorem scKinds : FnScope ["_law_e", "_law_found"] ["_law_e"] (defScope (top 44)) := ⟨rfl, rfl, rfl, by decide +kernel, rfl, by decide +kernel, by decide +kernel⟩
theorem ok_kinds (F : FnG K "_law_kinds" 44 f fd) (D : DKinds P w K mg base) : FnOk P w K mg base CX0 1 f fd ["_law_e"] (spKinds K) := by
  refine F.ok scKinds (fun vs H Q E h => ?_) (fun cdv A outer s H vs Q E hr h => ?_)
  · obtain ⟨a, i, fs, rfl, _⟩ := h
    rfl
  · obtain ⟨a, i, fs, rfl, hi, at0, k⟩ := h
    have ec := D.errA i hi
    have kt := fun j hj => D.kit i j hi hj
    refine ⟨_, PSs.nox (pss_cons (ps_set (i := 1) scKinds.nd rfl (Or.inl rfl) (pe_lst (pa_cons (pe_callB call_errIs (by rfl) D.isinstance (by decide +kernel) (pa_cons (pv 0) (pa_cons (pe_glob (v := .ref (He.ga K "BadText")) rfl D.BadText.glo rfl) pa_nil))) (pa_cons (pe_callB call_errIs (by rfl) D.isinstance (by decide +kernel) (pa_cons (pv 0) (pa_cons (pe_glob (v := .ref (He.ga K "BadName")) rfl D.BadName.glo rfl) pa_nil))) (pa_cons (pe_callB call_errIs (by rfl) D.isinstance (by decide +kernel) (pa_cons (pv 0) (pa_cons (pe_glob (v := .ref (He.ga K "NoZone")) rfl D.NoZone.glo rfl) pa_nil))) pa_nil)))))
        (pss_cons (ps_set (i := 1) scKinds.nd rfl (Or.inl rfl) (pe_op op_cat (pv 1) (pe_lst (pa_cons (pe_callB call_errIs (by rfl) D.isinstance (by decide +kernel) (pa_cons (pv 0) (pa_cons (pe_glob (v := .ref (He.ga K "NoProgram")) rfl D.NoProgram.glo rfl) pa_nil))) (pa_cons (pe_callB call_errIs (by rfl) D.isinstance (by decide +kernel) (pa_cons (pv 0) (pa_cons (pe_glob (v := .ref (He.ga K "NoRoute")) rfl D.NoRoute.glo rfl) pa_nil))) (pa_cons (pe_callB call_errIs (by rfl) D.isinstance (by decide +kernel) (pa_cons (pv 0) (pa_cons (pe_glob (v := .ref (He.ga K "BadPiece")) rfl D.BadPiece.glo rfl) pa_nil))) pa_nil))))))
        (pss_cons (ps_set (i := 1) scKinds.nd rfl (Or.inl rfl) (pe_op op_cat (pv 1) (pe_lst (pa_cons (pe_callB call_errIs (by rfl) D.isinstance (by decide +kernel) (pa_cons (pv 0) (pa_cons (pe_glob (v := .ref (He.ga K "BadNumber")) rfl D.BadNumber.glo rfl) pa_nil))) (pa_cons (pe_callB call_errIs (by rfl) D.isinstance (by decide +kernel) (pa_cons (pv 0) (pa_cons (pe_glob (v := .ref (He.ga K "TooMany")) rfl D.TooMany.glo rfl) pa_nil))) (pa_cons (pe_callB call_errIs (by rfl) D.isinstance (by decide +kernel) (pa_cons (pv 0) (pa_cons (pe_glob (v := .ref (He.ga K "BadKind")) rfl D.BadKind.glo rfl) pa_nil))) pa_nil))))))
        (pss_cons (ps_set (i := 1) scKinds.nd rfl (Or.inl rfl) (pe_op op_cat (pv 1) (pe_lst (pa_cons (pe_callB call_errIs (by rfl) D.isinstance (by decide +kernel) (pa_cons (pv 0) (pa_cons (pe_glob (v := .ref (He.ga K "BadRule")) rfl D.BadRule.glo rfl) pa_nil))) (pa_cons (pe_callB call_errIs (by rfl) D.isinstance (by decide +kernel) (pa_cons (pv 0) (pa_cons (pe_glob (v := .ref (He.ga K "BadOffsets")) rfl D.BadOffsets.glo rfl) pa_nil))) (pa_cons (pe_callB call_errIs (by rfl) D.isinstance (by decide +kernel) (pa_cons (pv 0) (pa_cons (pe_glob (v := .ref (He.ga K "NoHours")) rfl D.NoHours.glo rfl) pa_nil))) pa_nil))))))
        (pss_cons (ps_set (i := 1) scKinds.nd rfl (Or.inl rfl) (pe_op op_cat (pv 1) (pe_lst (pa_cons (pe_callB call_errIs (by rfl) D.isinstance (by decide +kernel) (pa_cons (pv 0) (pa_cons (pe_glob (v := .ref (He.ga K "BadChange")) rfl D.BadChange.glo rfl) pa_nil))) (pa_cons (pe_callB call_errIs (by rfl) D.isinstance (by decide +kernel) (pa_cons (pv 0) (pa_cons (pe_glob (v := .ref (He.ga K "BadLook")) rfl D.BadLook.glo rfl) pa_nil))) (pa_cons (pe_callB call_errIs (by rfl) D.isinstance (by decide +kernel) (pa_cons (pv 0) (pa_cons (pe_glob (v := .ref (He.ga K "TooWide")) rfl D.TooWide.glo rfl) pa_nil))) pa_nil))))))
        (pss_cons (ps_set (i := 1) scKinds.nd rfl (Or.inl rfl) (pe_op op_cat (pv 1) (pe_lst (pa_cons (pe_callB call_errIs (by rfl) D.isinstance (by decide +kernel) (pa_cons (pv 0) (pa_cons (pe_glob (v := .ref (He.ga K "NotTogether")) rfl D.NotTogether.glo rfl) pa_nil))) (pa_cons (pe_callB call_errIs (by rfl) D.isinstance (by decide +kernel) (pa_cons (pv 0) (pa_cons (pe_glob (v := .ref (He.ga K "BadEntry")) rfl D.BadEntry.glo rfl) pa_nil))) (pa_cons (pe_callB call_errIs (by rfl) D.isinstance (by decide +kernel) (pa_cons (pv 0) (pa_cons (pe_glob (v := .ref (He.ga K "NotARing")) rfl D.NotARing.glo rfl) pa_nil))) pa_nil))))))
        (pss_cons (ps_set (i := 1) scKinds.nd rfl (Or.inl rfl) (pe_op op_cat (pv 1) (pe_lst (pa_cons (pe_callB call_errIs (by rfl) D.isinstance (by decide +kernel) (pa_cons (pv 0) (pa_cons (pe_glob (v := .ref (He.ga K "NotHeld")) rfl D.NotHeld.glo rfl) pa_nil))) (pa_cons (pe_callB call_errIs (by rfl) D.isinstance (by decide +kernel) (pa_cons (pv 0) (pa_cons (pe_glob (v := .ref (He.ga K "BadDeed")) rfl D.BadDeed.glo rfl) pa_nil))) (pa_cons (pe_callB call_errIs (by rfl) D.isinstance (by decide +kernel) (pa_cons (pv 0) (pa_cons (pe_glob (v := .ref (He.ga K "NothingToUndo")) rfl D.NothingToUndo.1 rfl) pa_nil))) pa_nil))))))
        (pss_cons (ps_set (i := 1) scKinds.nd rfl (Or.inl rfl) (pe_op op_cat (pv 1) (pe_lst (pa_cons (pe_callB call_errIs (by rfl) D.isinstance (by decide +kernel) (pa_cons (pv 0) (pa_cons (pe_glob (v := .ref (He.ga K "OtherPrograms")) rfl D.OtherPrograms.1 rfl) pa_nil))) (pa_cons (pe_callB call_errIs (by rfl) D.isinstance (by decide +kernel) (pa_cons (pv 0) (pa_cons (pe_glob (v := .ref (He.ga K "OtherRoutes")) rfl D.OtherRoutes.1 rfl) pa_nil))) pa_nil)))))
        (pss_one (ps_ret (pv 1))))))))))), ?_⟩
    refine ⟨_, rfl, a, _, _, _, _, _, rfl, ec, at0, .own (cl K 0), kt 0 (by decide), _, rfl, a, _, _, _, _, _, rfl, ec, at0, .own (cl K 1), kt 1 (by decide), _, rfl, a, _, _, _, _, _, rfl, ec, at0, .own (cl K 2), kt 2 (by decide), (by show 3 ≤ sizeLine; decide), fun p0 hp0 => ?_⟩
    have s1 : Same H (upd H p0 (.lst ([V.bl (decide (i = 0)), V.bl (decide (i = 1)), V.bl (decide (i = 2))]))) := same_upd hp0
    have at1 := at0.same s1
    have l1 : (upd H p0 (.lst ([V.bl (decide (i = 0)), V.bl (decide (i = 1)), V.bl (decide (i = 2))]))) p0 = some (.lst ([V.bl (decide (i = 0)), V.bl (decide (i = 1)), V.bl (decide (i = 2))])) := upd_same
    generalize upd H p0 (.lst ([V.bl (decide (i = 0)), V.bl (decide (i = 1)), V.bl (decide (i = 2))])) = H1 at s1 at1 l1 ⊢
    refine ⟨_, rfl, _, rfl, a, _, _, _, _, _, rfl, ec, at1, .own (cl K 3), kt 3 (by decide), _, rfl, a, _, _, _, _, _, rfl, ec, at1, .own (cl K 4), kt 4 (by decide), _, rfl, a, _, _, _, _, _, rfl, ec, at1, .own (cl K 5), kt 5 (by decide), (by show 3 ≤ sizeLine; decide), fun r1 hr1 => ⟨_, _, _, _, rfl, rfl, same_upd hr1 _ _ l1, upd_same, (by show 6 ≤ sizeLine; decide), fun p1 hp1 => ?_⟩⟩
    have s2 : Same H (upd (upd H1 r1 (.lst [V.bl (decide (i = 3)), V.bl (decide (i = 4)), V.bl (decide (i = 5))])) p1 (.lst ([V.bl (decide (i = 0)), V.bl (decide (i = 1)), V.bl (decide (i = 2))] ++ [V.bl (decide (i = 3)), V.bl (decide (i = 4)), V.bl (decide (i = 5))]))) := s1.trans ((same_upd hr1).trans (same_upd hp1))
    have at2 := at0.same s2
    have l2 : (upd (upd H1 r1 (.lst [V.bl (decide (i = 3)), V.bl (decide (i = 4)), V.bl (decide (i = 5))])) p1 (.lst ([V.bl (decide (i = 0)), V.bl (decide (i = 1)), V.bl (decide (i = 2))] ++ [V.bl (decide (i = 3)), V.bl (decide (i = 4)), V.bl (decide (i = 5))]))) p1 = some (.lst ([V.bl (decide (i = 0)), V.bl (decide (i = 1)), V.bl (decide (i = 2))] ++ [V.bl (decide (i = 3)), V.bl (decide (i = 4)), V.bl (decide (i = 5))])) := upd_same
    generalize upd (upd H1 r1 (.lst [V.bl (decide (i = 3)), V.bl (decide (i = 4)), V.bl (decide (i = 5))])) p1 (.lst ([V.bl (decide (i = 0)), V.bl (decide (i = 1)), V.bl (decide (i = 2))] ++ [V.bl (decide (i = 3)), V.bl (decide (i = 4)), V.bl (decide (i = 5))])) = H2 at s2 at2 l2 ⊢
    refine ⟨_, rfl, _, rfl, a, _, _, _, _, _, rfl, ec, at2, .own (cl K 6), kt 6 (by decide), _, rfl, a, _, _, _, _, _, rfl, ec, at2, .own (cl K 7), kt 7 (by decide), _, rfl, a, _, _, _, _, _, rfl, ec, at2, .own (cl K 8), kt 8 (by decide), (by show 3 ≤ sizeLine; decide), fun r2 hr2 => ⟨_, _, _, _, rfl, rfl, same_upd hr2 _ _ l2, upd_same, (by show 9 ≤ sizeLine; decide), fun p2 hp2 => ?_⟩⟩
    have s3 : Same H (upd (upd H2 r2 (.lst [V.bl (decide (i = 6)), V.bl (decide (i = 7)), V.bl (decide (i = 8))])) p2 (.lst ([V.bl (decide (i = 0)), V.bl (decide (i = 1)), V.bl (decide (i = 2))] ++ [V.bl (decide (i = 3)), V.bl (decide (i = 4)), V.bl (decide (i = 5))] ++ [V.bl (decide (i = 6)), V.bl (decide (i = 7)), V.bl (decide (i = 8))]))) := s2.trans ((same_upd hr2).trans (same_upd hp2))
    have at3 := at0.same s3
    have l3 : (upd (upd H2 r2 (.lst [V.bl (decide (i = 6)), V.bl (decide (i = 7)), V.bl (decide (i = 8))])) p2 (.lst ([V.bl (decide (i = 0)), V.bl (decide (i = 1)), V.bl (decide (i = 2))] ++ [V.bl (decide (i = 3)), V.bl (decide (i = 4)), V.bl (decide (i = 5))] ++ [V.bl (decide (i = 6)), V.bl (decide (i = 7)), V.bl (decide (i = 8))]))) p2 = some (.lst ([V.bl (decide (i = 0)), V.bl (decide (i = 1)), V.bl (decide (i = 2))] ++ [V.bl (decide (i = 3)), V.bl (decide (i = 4)), V.bl (decide (i = 5))] ++ [V.bl (decide (i = 6)), V.bl (decide (i = 7)), V.bl (decide (i = 8))])) := upd_same
    generalize upd (upd H2 r2 (.lst [V.bl (decide (i = 6)), V.bl (decide (i = 7)), V.bl (decide (i = 8))])) p2 (.lst ([V.bl (decide (i = 0)), V.bl (decide (i = 1)), V.bl (decide (i = 2))] ++ [V.bl (decide (i = 3)), V.bl (decide (i = 4)), V.bl (decide (i = 5))] ++ [V.bl (decide (i = 6)), V.bl (decide (i = 7)), V.bl (decide (i = 8))])) = H3 at s3 at3 l3 ⊢
    refine ⟨_, rfl, _, rfl, a, _, _, _, _, _, rfl, ec, at3, .own (cl K 9), kt 9 (by decide), _, rfl, a, _, _, _, _, _, rfl, ec, at3, .own (cl K 10), kt 10 (by decide), _, rfl, a, _, _, _, _, _, rfl, ec, at3, .own (cl K 11), kt 11 (by decide), (by show 3 ≤ sizeLine; decide), fun r3 hr3 => ⟨_, _, _, _, rfl, rfl, same_upd hr3 _ _ l3, upd_same, (by show 12 ≤ sizeLine; decide), fun p3 hp3 => ?_⟩⟩
    have s4 : Same H (upd (upd H3 r3 (.lst [V.bl (decide (i = 9)), V.bl (decide (i = 10)), V.bl (decide (i = 11))])) p3 (.lst ([V.bl (decide (i = 0)), V.bl (decide (i = 1)), V.bl (decide (i = 2))] ++ [V.bl (decide (i = 3)), V.bl (decide (i = 4)), V.bl (decide (i = 5))] ++ [V.bl (decide (i = 6)), V.bl (decide (i = 7)), V.bl (decide (i = 8))] ++ [V.bl (decide (i = 9)), V.bl (decide (i = 10)), V.bl (decide (i = 11))]))) := s3.trans ((same_upd hr3).trans (same_upd hp3))
    have at4 := at0.same s4
    have l4 : (upd (upd H3 r3 (.lst [V.bl (decide (i = 9)), V.bl (decide (i = 10)), V.bl (decide (i = 11))])) p3 (.lst ([V.bl (decide (i = 0)), V.bl (decide (i = 1)), V.bl (decide (i = 2))] ++ [V.bl (decide (i = 3)), V.bl (decide (i = 4)), V.bl (decide (i = 5))] ++ [V.bl (decide (i = 6)), V.bl (decide (i = 7)), V.bl (decide (i = 8))] ++ [V.bl (decide (i = 9)), V.bl (decide (i = 10)), V.bl (decide (i = 11))]))) p3 = some (.lst ([V.bl (decide (i = 0)), V.bl (decide (i = 1)), V.bl (decide (i = 2))] ++ [V.bl (decide (i = 3)), V.bl (decide (i = 4)), V.bl (decide (i = 5))] ++ [V.bl (decide (i = 6)), V.bl (decide (i = 7)), V.bl (decide (i = 8))] ++ [V.bl (decide (i = 9)), V.bl (decide (i = 10)), V.bl (decide (i = 11))])) := upd_same
    generalize upd (upd H3 r3 (.lst [V.bl (decide (i = 9)), V.bl (decide (i = 10)), V.bl (decide (i = 11))])) p3 (.lst ([V.bl (decide (i = 0)), V.bl (decide (i = 1)), V.bl (decide (i = 2))] ++ [V.bl (decide (i = 3)), V.bl (decide (i = 4)), V.bl (decide (i = 5))] ++ [V.bl (decide (i = 6)), V.bl (decide (i = 7)), V.bl (decide (i = 8))] ++ [V.bl (decide (i = 9)), V.bl (decide (i = 10)), V.bl (decide (i = 11))])) = H4 at s4 at4 l4 ⊢
    refine ⟨_, rfl, _, rfl, a, _, _, _, _, _, rfl, ec, at4, .own (cl K 12), kt 12 (by decide), _, rfl, a, _, _, _, _, _, rfl, ec, at4, .own (cl K 13), kt 13 (by decide), _, rfl, a, _, _, _, _, _, rfl, ec, at4, .own (cl K 14), kt 14 (by decide), (by show 3 ≤ sizeLine; decide), fun r4 hr4 => ⟨_, _, _, _, rfl, rfl, same_upd hr4 _ _ l4, upd_same, (by show 15 ≤ sizeLine; decide), fun p4 hp4 => ?_⟩⟩
    have s5 : Same H (upd (upd H4 r4 (.lst [V.bl (decide (i = 12)), V.bl (decide (i = 13)), V.bl (decide (i = 14))])) p4 (.lst ([V.bl (decide (i = 0)), V.bl (decide (i = 1)), V.bl (decide (i = 2))] ++ [V.bl (decide (i = 3)), V.bl (decide (i = 4)), V.bl (decide (i = 5))] ++ [V.bl (decide (i = 6)), V.bl (decide (i = 7)), V.bl (decide (i = 8))] ++ [V.bl (decide (i = 9)), V.bl (decide (i = 10)), V.bl (decide (i = 11))] ++ [V.bl (decide (i = 12)), V.bl (decide (i = 13)), V.bl (decide (i = 14))]))) := s4.trans ((same_upd hr4).trans (same_upd hp4))
    have at5 := at0.same s5
    have l5 : (upd (upd H4 r4 (.lst [V.bl (decide (i = 12)), V.bl (decide (i = 13)), V.bl (decide (i = 14))])) p4 (.lst ([V.bl (decide (i = 0)), V.bl (decide (i = 1)), V.bl (decide (i = 2))] ++ [V.bl (decide (i = 3)), V.bl (decide (i = 4)), V.bl (decide (i = 5))] ++ [V.bl (decide (i = 6)), V.bl (decide (i = 7)), V.bl (decide (i = 8))] ++ [V.bl (decide (i = 9)), V.bl (decide (i = 10)), V.bl (decide (i = 11))] ++ [V.bl (decide (i = 12)), V.bl (decide (i = 13)), V.bl (decide (i = 14))]))) p4 = some (.lst ([V.bl (decide (i = 0)), V.bl (decide (i = 1)), V.bl (decide (i = 2))] ++ [V.bl (decide (i = 3)), V.bl (decide (i = 4)), V.bl (decide (i = 5))] ++ [V.bl (decide (i = 6)), V.bl (decide (i = 7)), V.bl (decide (i = 8))] ++ [V.bl (decide (i = 9)), V.bl (decide (i = 10)), V.bl (decide (i = 11))] ++ [V.bl (decide (i = 12)), V.bl (decide (i = 13)), V.bl (decide (i = 14))])) := upd_same
    generalize upd (upd H4 r4 (.lst [V.bl (decide (i = 12)), V.bl (decide (i = 13)), V.bl (decide (i = 14))])) p4 (.lst ([V.bl (decide (i = 0)), V.bl (decide (i = 1)), V.bl (decide (i = 2))] ++ [V.bl (decide (i = 3)), V.bl (decide (i = 4)), V.bl (decide (i = 5))] ++ [V.bl (decide (i = 6)), V.bl (decide (i = 7)), V.bl (decide (i = 8))] ++ [V.bl (decide (i = 9)), V.bl (decide (i = 10)), V.bl (decide (i = 11))] ++ [V.bl (decide (i = 12)), V.bl (decide (i = 13)), V.bl (decide (i = 14))])) = H5 at s5 at5 l5 ⊢
    refine ⟨_, rfl, _, rfl, a, _, _, _, _, _, rfl, ec, at5, .own (cl K 15), kt 15 (by decide), _, rfl, a, _, _, _, _, _, rfl, ec, at5, .own (cl K 16), kt 16 (by decide), _, rfl, a, _, _, _, _, _, rfl, ec, at5, .own (cl K 17), kt 17 (by decide), (by show 3 ≤ sizeLine; decide), fun r5 hr5 => ⟨_, _, _, _, rfl, rfl, same_upd hr5 _ _ l5, upd_same, (by show 18 ≤ sizeLine; decide), fun p5 hp5 => ?_⟩⟩
    have s6 : Same H (upd (upd H5 r5 (.lst [V.bl (decide (i = 15)), V.bl (decide (i = 16)), V.bl (decide (i = 17))])) p5 (.lst ([V.bl (decide (i = 0)), V.bl (decide (i = 1)), V.bl (decide (i = 2))] ++ [V.bl (decide (i = 3)), V.bl (decide (i = 4)), V.bl (decide (i = 5))] ++ [V.bl (decide (i = 6)), V.bl (decide (i = 7)), V.bl (decide (i = 8))] ++ [V.bl (decide (i = 9)), V.bl (decide (i = 10)), V.bl (decide (i = 11))] ++ [V.bl (decide (i = 12)), V.bl (decide (i = 13)), V.bl (decide (i = 14))] ++ [V.bl (decide (i = 15)), V.bl (decide (i = 16)), V.bl (decide (i = 17))]))) := s5.trans ((same_upd hr5).trans (same_upd hp5))
    have at6 := at0.same s6
    have l6 : (upd (upd H5 r5 (.lst [V.bl (decide (i = 15)), V.bl (decide (i = 16)), V.bl (decide (i = 17))])) p5 (.lst ([V.bl (decide (i = 0)), V.bl (decide (i = 1)), V.bl (decide (i = 2))] ++ [V.bl (decide (i = 3)), V.bl (decide (i = 4)), V.bl (decide (i = 5))] ++ [V.bl (decide (i = 6)), V.bl (decide (i = 7)), V.bl (decide (i = 8))] ++ [V.bl (decide (i = 9)), V.bl (decide (i = 10)), V.bl (decide (i = 11))] ++ [V.bl (decide (i = 12)), V.bl (decide (i = 13)), V.bl (decide (i = 14))] ++ [V.bl (decide (i = 15)), V.bl (decide (i = 16)), V.bl (decide (i = 17))]))) p5 = some (.lst ([V.bl (decide (i = 0)), V.bl (decide (i = 1)), V.bl (decide (i = 2))] ++ [V.bl (decide (i = 3)), V.bl (decide (i = 4)), V.bl (decide (i = 5))] ++ [V.bl (decide (i = 6)), V.bl (decide (i = 7)), V.bl (decide (i = 8))] ++ [V.bl (decide (i = 9)), V.bl (decide (i = 10)), V.bl (decide (i = 11))] ++ [V.bl (decide (i = 12)), V.bl (decide (i = 13)), V.bl (decide (i = 14))] ++ [V.bl (decide (i = 15)), V.bl (decide (i = 16)), V.bl (decide (i = 17))])) := upd_same
    generalize upd (upd H5 r5 (.lst [V.bl (decide (i = 15)), V.bl (decide (i = 16)), V.bl (decide (i = 17))])) p5 (.lst ([V.bl (decide (i = 0)), V.bl (decide (i = 1)), V.bl (decide (i = 2))] ++ [V.bl (decide (i = 3)), V.bl (decide (i = 4)), V.bl (decide (i = 5))] ++ [V.bl (decide (i = 6)), V.bl (decide (i = 7)), V.bl (decide (i = 8))] ++ [V.bl (decide (i = 9)), V.bl (decide (i = 10)), V.bl (decide (i = 11))] ++ [V.bl (decide (i = 12)), V.bl (decide (i = 13)), V.bl (decide (i = 14))] ++ [V.bl (decide (i = 15)), V.bl (decide (i = 16)), V.bl (decide (i = 17))])) = H6 at s6 at6 l6 ⊢
    refine ⟨_, rfl, _, rfl, a, _, _, _, _, _, rfl, ec, at6, .own (cl K 18), kt 18 (by decide), _, rfl, a, _, _, _, _, _, rfl, ec, at6, .own (cl K 19), kt 19 (by decide), _, rfl, a, _, _, _, _, _, rfl, ec, at6, .own (cl K 20), kt 20 (by decide), (by show 3 ≤ sizeLine; decide), fun r6 hr6 => ⟨_, _, _, _, rfl, rfl, same_upd hr6 _ _ l6, upd_same, (by show 21 ≤ sizeLine; decide), fun p6 hp6 => ?_⟩⟩
    have s7 : Same H (upd (upd H6 r6 (.lst [V.bl (decide (i = 18)), V.bl (decide (i = 19)), V.bl (decide (i = 20))])) p6 (.lst ([V.bl (decide (i = 0)), V.bl (decide (i = 1)), V.bl (decide (i = 2))] ++ [V.bl (decide (i = 3)), V.bl (decide (i = 4)), V.bl (decide (i = 5))] ++ [V.bl (decide (i = 6)), V.bl (decide (i = 7)), V.bl (decide (i = 8))] ++ [V.bl (decide (i = 9)), V.bl (decide (i = 10)), V.bl (decide (i = 11))] ++ [V.bl (decide (i = 12)), V.bl (decide (i = 13)), V.bl (decide (i = 14))] ++ [V.bl (decide (i = 15)), V.bl (decide (i = 16)), V.bl (decide (i = 17))] ++ [V.bl (decide (i = 18)), V.bl (decide (i = 19)), V.bl (decide (i = 20))]))) := s6.trans ((same_upd hr6).trans (same_upd hp6))
    have at7 := at0.same s7
    have l7 : (upd (upd H6 r6 (.lst [V.bl (decide (i = 18)), V.bl (decide (i = 19)), V.bl (decide (i = 20))])) p6 (.lst ([V.bl (decide (i = 0)), V.bl (decide (i = 1)), V.bl (decide (i = 2))] ++ [V.bl (decide (i = 3)), V.bl (decide (i = 4)), V.bl (decide (i = 5))] ++ [V.bl (decide (i = 6)), V.bl (decide (i = 7)), V.bl (decide (i = 8))] ++ [V.bl (decide (i = 9)), V.bl (decide (i = 10)), V.bl (decide (i = 11))] ++ [V.bl (decide (i = 12)), V.bl (decide (i = 13)), V.bl (decide (i = 14))] ++ [V.bl (decide (i = 15)), V.bl (decide (i = 16)), V.bl (decide (i = 17))] ++ [V.bl (decide (i = 18)), V.bl (decide (i = 19)), V.bl (decide (i = 20))]))) p6 = some (.lst ([V.bl (decide (i = 0)), V.bl (decide (i = 1)), V.bl (decide (i = 2))] ++ [V.bl (decide (i = 3)), V.bl (decide (i = 4)), V.bl (decide (i = 5))] ++ [V.bl (decide (i = 6)), V.bl (decide (i = 7)), V.bl (decide (i = 8))] ++ [V.bl (decide (i = 9)), V.bl (decide (i = 10)), V.bl (decide (i = 11))] ++ [V.bl (decide (i = 12)), V.bl (decide (i = 13)), V.bl (decide (i = 14))] ++ [V.bl (decide (i = 15)), V.bl (decide (i = 16)), V.bl (decide (i = 17))] ++ [V.bl (decide (i = 18)), V.bl (decide (i = 19)), V.bl (decide (i = 20))])) := upd_same
    generalize upd (upd H6 r6 (.lst [V.bl (decide (i = 18)), V.bl (decide (i = 19)), V.bl (decide (i = 20))])) p6 (.lst ([V.bl (decide (i = 0)), V.bl (decide (i = 1)), V.bl (decide (i = 2))] ++ [V.bl (decide (i = 3)), V.bl (decide (i = 4)), V.bl (decide (i = 5))] ++ [V.bl (decide (i = 6)), V.bl (decide (i = 7)), V.bl (decide (i = 8))] ++ [V.bl (decide (i = 9)), V.bl (decide (i = 10)), V.bl (decide (i = 11))] ++ [V.bl (decide (i = 12)), V.bl (decide (i = 13)), V.bl (decide (i = 14))] ++ [V.bl (decide (i = 15)), V.bl (decide (i = 16)), V.bl (decide (i = 17))] ++ [V.bl (decide (i = 18)), V.bl (decide (i = 19)), V.bl (decide (i = 20))])) = H7 at s7 at7 l7 ⊢
    refine ⟨_, rfl, _, rfl, a, _, _, _, _, _, rfl, ec, at7, .own (cl K 21), kt 21 (by decide), _, rfl, a, _, _, _, _, _, rfl, ec, at7, .own (cl K 22), kt 22 (by decide), (by show 2 ≤ sizeLine; decide), fun r7 hr7 => ⟨_, _, _, _, rfl, rfl, same_upd hr7 _ _ l7, upd_same, (by show 23 ≤ sizeLine; decide), fun p7 hp7 => ?_⟩⟩
    have s8 : Same H (upd (upd H7 r7 (.lst [V.bl (decide (i = 21)), V.bl (decide (i = 22))])) p7 (.lst ([V.bl (decide (i = 0)), V.bl (decide (i = 1)), V.bl (decide (i = 2))] ++ [V.bl (decide (i = 3)), V.bl (decide (i = 4)), V.bl (decide (i = 5))] ++ [V.bl (decide (i = 6)), V.bl (decide (i = 7)), V.bl (decide (i = 8))] ++ [V.bl (decide (i = 9)), V.bl (decide (i = 10)), V.bl (decide (i = 11))] ++ [V.bl (decide (i = 12)), V.bl (decide (i = 13)), V.bl (decide (i = 14))] ++ [V.bl (decide (i = 15)), V.bl (decide (i = 16)), V.bl (decide (i = 17))] ++ [V.bl (decide (i = 18)), V.bl (decide (i = 19)), V.bl (decide (i = 20))] ++ [V.bl (decide (i = 21)), V.bl (decide (i = 22))]))) := s7.trans ((same_upd hr7).trans (same_upd hp7))
    have at8 := at0.same s8
    have l8 : (upd (upd H7 r7 (.lst [V.bl (decide (i = 21)), V.bl (decide (i = 22))])) p7 (.lst ([V.bl (decide (i = 0)), V.bl (decide (i = 1)), V.bl (decide (i = 2))] ++ [V.bl (decide (i = 3)), V.bl (decide (i = 4)), V.bl (decide (i = 5))] ++ [V.bl (decide (i = 6)), V.bl (decide (i = 7)), V.bl (decide (i = 8))] ++ [V.bl (decide (i = 9)), V.bl (decide (i = 10)), V.bl (decide (i = 11))] ++ [V.bl (decide (i = 12)), V.bl (decide (i = 13)), V.bl (decide (i = 14))] ++ [V.bl (decide (i = 15)), V.bl (decide (i = 16)), V.bl (decide (i = 17))] ++ [V.bl (decide (i = 18)), V.bl (decide (i = 19)), V.bl (decide (i = 20))] ++ [V.bl (decide (i = 21)), V.bl (decide (i = 22))]))) p7 = some (.lst ([V.bl (decide (i = 0)), V.bl (decide (i = 1)), V.bl (decide (i = 2))] ++ [V.bl (decide (i = 3)), V.bl (decide (i = 4)), V.bl (decide (i = 5))] ++ [V.bl (decide (i = 6)), V.bl (decide (i = 7)), V.bl (decide (i = 8))] ++ [V.bl (decide (i = 9)), V.bl (decide (i = 10)), V.bl (decide (i = 11))] ++ [V.bl (decide (i = 12)), V.bl (decide (i = 13)), V.bl (decide (i = 14))] ++ [V.bl (decide (i = 15)), V.bl (decide (i = 16)), V.bl (decide (i = 17))] ++ [V.bl (decide (i = 18)), V.bl (decide (i = 19)), V.bl (decide (i = 20))] ++ [V.bl (decide (i = 21)), V.bl (decide (i = 22))])) := upd_same
    generalize upd (upd H7 r7 (.lst [V.bl (decide (i = 21)), V.bl (decide (i = 22))])) p7 (.lst ([V.bl (decide (i = 0)), V.bl (decide (i = 1)), V.bl (decide (i = 2))] ++ [V.bl (decide (i = 3)), V.bl (decide (i = 4)), V.bl (decide (i = 5))] ++ [V.bl (decide (i = 6)), V.bl (decide (i = 7)), V.bl (decide (i = 8))] ++ [V.bl (decide (i = 9)), V.bl (decide (i = 10)), V.bl (decide (i = 11))] ++ [V.bl (decide (i = 12)), V.bl (decide (i = 13)), V.bl (decide (i = 14))] ++ [V.bl (decide (i = 15)), V.bl (decide (i = 16)), V.bl (decide (i = 17))] ++ [V.bl (decide (i = 18)), V.bl (decide (i = 19)), V.bl (decide (i = 20))] ++ [V.bl (decide (i = 21)), V.bl (decide (i = 22))])) = H8 at s8 at8 l8 ⊢
    exact ⟨_, rfl, k _ _ s8 l8⟩
end
end Wd

set_option maxHeartbeats 4000000
namespace Wd
open PySem PySem.Spec PyProof.Rows L2
theorem ifB {b : Bool} {A B : Prop} (h : b = true) (a : A) : if b = true then A else B := by rw [if_pos h]; exact a
theorem ifN {b : Bool} {A B : Prop} (h : b = false) (z : B) : if b = true then A else B := by
  rw [h, if_neg Bool.false_ne_true]
  exact z
structure TxtE (K : PySem.W.Frag) (mg : Str → Option Value) : Prop where
  int : mg "int" = none
  len : mg "len" = none
  isinstance : mg "isinstance" = none
  str : mg "str" = none
  KINDS : mg "KINDS" = some (.ref (He.ga K "KINDS"))
  kinds : ∀ H, SqT K H (He.ga K "KINDS") [.str "day", .str "float", .str "zoned", .str "fixed"]
def spNum : Sp := fun vs H Q _ => vs = [.str "1", .int 30] ∧ Q (.int 1) H
def spIsk : Sp := fun vs H Q _ => vs = [.str "day"] ∧ Q (.bl true) H
def spParts : Sp := fun vs H Q _ => ∃ l, vs = [.ref l, .int 30] ∧ H l = some (.lst [.str "day", .str "1", .str "to", .str "1"]) ∧
  ∀ p, H p = none → Q (.ref p) (upd H p (.tup [.str "day", .int 1, .int 1, .non]))
section
variable {P : Program} {w : World} {K : PySem.W.Frag} {mg : Str → Option Value} {base : Heap} {f : Addr} {fd : FuncData}
theorem scNum : FnScope ["word", "digits", "figures"] ["word", "digits"] (defScope (top 29)) := ⟨rfl, rfl, rfl, by decide +kernel, rfl, by decide +kernel, by decide +kernel⟩
theorem ok_num (F : FunD K "number_in" "number_in" (defArgs (top 29)) (defBody (top 29)) (defScope (top 29)) [.int 30] [] f fd) (T : TxtE K mg) : FnOk P w K mg base CX0 1 f fd ["word", "digits"] spNum := by
  refine F.ok scNum (fun vs H Q E h => ?_) (fun cdv A outer s H vs Q E hr h => ?_)
  · obtain ⟨rfl, _⟩ := h
    rfl
  · obtain ⟨rfl, k⟩ := h
    refine ⟨_, PSs.nox (pss_cons (ps_set (i := 2) scNum.nd rfl (Or.inl rfl) (pe_m1 PySem.F.slot_str_removeprefix PySem.F.type_str_removeprefix mt_removeprefix (pv 0) pe_str))
        (pss_cons (ps_if (pt_not (PW.pt (pw_and (pt_val (pe_m0 PySem.F.slot_str_isascii PySem.F.type_str_isascii mt_isascii (pv 2))) (pw_and1 (pt_val (pe_m0 PySem.F.slot_str_isdigit PySem.F.type_str_isdigit mt_isdigit (pv 2))))))) (pss_one (ps_ret pe_non)) pss_nil)
        (pss_cons (ps_if (PW.pt (pw_and (pt_cmpR op_eq (pe_ix ix_str (pv 2) pe_int (fun _ _ => rfl)) pe_str (nomark _)) (pw_and1 (pt_cmpR op_ne (pv 0) pe_str (nomark _))))) (pss_one (ps_ret pe_non)) pss_nil)
        (pss_cons (ps_if (PW.pt (pw_and (pt_cmpR op_notN (pv 1) pe_non (nomark _)) (pw_and1 (pt_cmpR op_gt (pe_callB call_len_str (by rfl) T.len PySem.boot_len (pa_cons (pv 2) pa_nil)) (pv 1) (nomark _))))) (pss_one (ps_ret pe_non)) pss_nil)
        (pss_one (ps_ret (pe_callTy call_int_str (by rfl) T.int (by decide +kernel) (pa_cons (pv 0) pa_nil)))))))), ?_⟩
    refine ⟨_, rfl, ⟨_, rfl⟩, _, _, rfl, rfl, (by decide +kernel), ?_⟩
    rw [show Txt.removeprefix ("1" : Str) "-" = "1" from by decide +kernel]
    refine ⟨_, rfl, ⟨_, rfl⟩, _, rfl, rfl, trivial, true, congrArg V.bl (by decide +kernel : Txt.isascii ("1" : Str) = true), iteT ?_⟩
    refine ⟨_, rfl, ⟨_, rfl⟩, _, rfl, rfl, trivial, true, congrArg V.bl (by decide +kernel : Txt.isdigit ("1" : Str) = true), iteF ?_⟩
    refine ⟨_, rfl, _, _, 49, rfl, rfl, (by decide +kernel), (by decide +kernel), rfl, _, rfl, ?_⟩
    refine ifF (by decide +kernel) ?_
    refine iteF ?_
    refine ⟨_, rfl, rfl, _, rfl, ifB rfl ?_⟩
    refine ⟨_, rfl, _, rfl, (by decide +kernel), _, rfl, _, _, rfl, rfl, _, rfl, ?_⟩
    refine ifF (by decide +kernel) ?_
    exact ⟨_, rfl, _, 1, rfl, (by decide +kernel), (by decide +kernel), k⟩
theorem scIsk : FnScope ["value"] ["value"] (defScope (top 35)) := ⟨rfl, rfl, rfl, by decide +kernel, rfl, by decide +kernel, by decide +kernel⟩
theorem ok_isk (F : FnG K "is_kind" 35 f fd) (T : TxtE K mg) : FnOk P w K mg base CX0 1 f fd ["value"] spIsk := by
  refine F.ok scIsk (fun vs H Q E h => ?_) (fun cdv A outer s H vs Q E hr h => ?_)
  · obtain ⟨rfl, _⟩ := h
    rfl
  · obtain ⟨rfl, k⟩ := h
    refine ⟨_, PSs.nox (pss_one (ps_ret (pe_and (pe_callB call_isi (by rfl) T.isinstance (by decide +kernel) (pa_cons (pv 0) (pa_cons (pe_bltn (v := .ty "str") (by rfl) T.str (by decide +kernel) rfl) pa_nil))) (pe_one (pe_cmpR op_in_seq (pv 0) (pe_glob (v := .ref (He.ga K "KINDS")) rfl T.KINDS rfl) (by rfl)))))), ?_⟩
    refine ⟨_, rfl, .str "day", .ty "str", .type "str", .type "str", true, rfl, .ty _, .base (.str _), kit_ty (by decide +kernel), true, rfl, iteT ?_⟩
    refine ⟨_, rfl, _, _, rfl, .inr (T.kinds H), rfl, rfl, ?_⟩
    rw [show inV (.str "day") [.str "day", .str "float", .str "zoned", .str "fixed"] = true from by decide +kernel]
    exact k
structure DParts (P : Program) (w : World) (K : PySem.W.Frag) (mg : Str → Option Value) (base : Heap) : Prop where
  number_in : Df P w K mg base CX0 1 "number_in" ["word", "digits"] spNum
  is_kind : Df P w K mg base CX0 1 "is_kind" ["value"] spIsk
theorem scParts : FnScope ["words", "digits", "kind", "first", "last"] ["words", "digits"] (defScope (top 37)) := ⟨rfl, rfl, rfl, by decide +kernel, rfl, by decide +kernel, by decide +kernel⟩
theorem ok_parts (F : FnG K "_parts" 37 f fd) (T : TxtE K mg) (D : DParts P w K mg base) : FnOk P w K mg base CX0 2 f fd ["words", "digits"] spParts := by
  refine F.ok scParts (fun vs H Q E h => ?_) (fun cdv A outer s H vs Q E hr h => ?_)
  · obtain ⟨l, rfl, _⟩ := h
    rfl
  · obtain ⟨l, rfl, hl, k⟩ := h
    refine ⟨_, PSs.nox (pss_cons (ps_set (i := 2) scParts.nd rfl (Or.inl rfl) (pe_ix ix_list (pv 0) pe_int (fun _ _ => rfl))) (pss_cons (ps_if (PW.pt (pw_or (pt_not (pt_val (pe_cd D.is_kind (hr.mono (by decide)) pass0 (pa_cons (pv 2) pa_nil)))) (pw_or1 (pt_cmpR op_ne (pe_callB call_len (by rfl) T.len PySem.boot_len (pa_cons (pv 0) pa_nil)) (pe_ifExp (pt_cmpR op_eq (pv 2) pe_str (nomark _)) pe_int pe_int) (nomark _))))) (pss_one ps_never) pss_nil) (pss_cons (ps_set (i := 3) scParts.nd rfl (Or.inl rfl) (pe_cd D.number_in (hr.mono (by decide)) pass0 (pa_cons (pe_ix ix_list (pv 0) pe_int (fun _ _ => rfl)) (pa_cons (pv 1) pa_nil)))) (pss_cons (ps_set (i := 4) scParts.nd rfl (Or.inl rfl) (pe_cd D.number_in (hr.mono (by decide)) pass0 (pa_cons (pe_ix ix_list (pv 0) pe_int (fun _ _ => rfl)) (pa_cons (pv 1) pa_nil)))) (pss_cons (ps_if (PW.pt (pw_or (pt_cmpR op_ne (pe_ix ix_list (pv 0) pe_int (fun _ _ => rfl)) pe_str (nomark _)) (pw_or (pt_cmpR op_isN (pv 3) pe_non (nomark _)) (pw_or (pt_cmpR op_isN (pv 4) pe_non (nomark _)) (pw_or1 (pt_cmpR op_gt (pv 3) (pv 4) (nomark _))))))) (pss_one ps_never) pss_nil) (pss_cons (ps_if (pt_cmpR op_ne (pv 2) pe_str (nomark _)) (pss_one (ps_ret (pe_tup (pa_cons (pv 2) (pa_cons (pv 3) (pa_cons (pv 4) (pa_cons pe_non pa_nil))))))) pss_nil) pss_never)))))), ?_⟩
    refine ⟨_, rfl, l, _, _, _, rfl, rfl, SqL.of hl, (by rfl), ?_⟩
    refine ⟨_, rfl, rfl, true, rfl, ?_⟩
    refine ifN rfl ?_
    refine ⟨_, rfl, _, 4, rfl, .inl ⟨_, SqL.of hl, rfl⟩, _, rfl, rfl, _, rfl, ifF (by decide +kernel) ?_⟩
    refine ⟨rfl, _, rfl, ifN (by decide +kernel) ?_⟩
    refine ⟨_, rfl, l, _, _, _, rfl, rfl, SqL.of hl, (by rfl), _, rfl, rfl, ?_⟩
    refine ⟨_, rfl, l, _, _, _, rfl, rfl, SqL.of hl, (by rfl), _, rfl, rfl, ?_⟩
    refine ⟨_, rfl, l, _, _, _, rfl, rfl, SqL.of hl, (by rfl), rfl, _, rfl, ifN (by decide +kernel) ?_⟩
    refine ⟨_, rfl, rfl, _, rfl, ifN rfl ?_⟩
    refine ⟨_, rfl, rfl, _, rfl, ifN rfl ?_⟩
    refine ⟨_, rfl, _, rfl, _, _, rfl, rfl, _, rfl, ifF (by decide) ?_⟩
    refine ⟨_, rfl, rfl, _, rfl, ifB (by decide +kernel) ?_⟩
    exact ⟨_, rfl, _, rfl, _, rfl, (by show 4 ≤ sizeLine; decide), fun p hp => k p hp⟩
structure TxtC (K : PySem.W.Frag) (mg : Str → Option Value) : Prop extends TxtE K mg where
  cl : Cls K (He.ga K "Entry")
  n1 : NoAttr K (He.ga K "Entry") "text"
  n2 : NoAttr K (He.ga K "Entry") "kind"
  n3 : NoAttr K (He.ga K "Entry") "first"
  n4 : NoAttr K (He.ga K "Entry") "last"
  n5 : NoAttr K (He.ga K "Entry") "zone"
  Entry : mg "Entry" = some (.ref (He.ga K "Entry"))
  cc : PySem.W.findIn K (.ref (He.ga K "Entry")) "__class__" = some (some (.builtin "object.__class__"))
  cg : PySem.W.specialIn K (.builtin "object.__class__") "__get__" = some (some (.builtin "getset_descriptor.__get__"))
  ct : PySem.W.takesIn K (.builtin "object.__class__") = some true
  ob : PySem.W.mroIn K (He.ga K "Entry") (.type "object") = some true
  kt : PySem.W.kitOne K (.ref (He.ga K "Entry")) (.ref (He.ga K "Entry")) = some true
structure DEnt (P : Program) (w : World) (K : PySem.W.Frag) (mg : Str → Option Value) (base : Heap) : Prop where
  parts : Df P w K mg base CX0 2 "_parts" ["words", "digits"] spParts
/-- an Entry of the text t stands at x -/
def EntAt (C x : Addr) (t : Str) (H : Hp) : Prop := ∃ dx fs, H x = some (.ins C dx fs) ∧ fs.lookup ("text" : Str) = some (V.str t)
def spEnt (C : Addr) : Sp := fun vs H Q _ => ∃ x dx, vs = [.ref x, .str "day 1 to 1", .int 30] ∧ H x = some (.ins C dx []) ∧
  ∀ H', (∀ b o, H b = some o → b ≠ x → H' b = some o) → EntAt C x "day 1 to 1" H' → Q .non H'
def spEq (C : Addr) : Sp := fun vs H Q _ => ∃ x t, vs = [.ref x, .ref x] ∧ EntAt C x t H ∧ Q (.bl true) H
theorem scEnt : FnScope ["self", "text", "digits", "kind", "first", "last", "zone"] ["self", "text", "digits"] (defScope (inClass (top 33) 0)) := ⟨rfl, rfl, rfl, by decide +kernel, rfl, by decide +kernel, by decide +kernel⟩
theorem ok_ent (F : FunD K "__init__" "Entry.__init__" (defArgs (inClass (top 33) 0)) (defBody (inClass (top 33) 0)) (defScope (inClass (top 33) 0)) [] [("digits", .int 30)] f fd) (T : TxtC K mg) (D : DEnt P w K mg base) :
    FnOk P w K mg base CX0 3 f fd ["self", "text", "digits"] (spEnt (He.ga K "Entry")) := by
  refine F.ok scEnt (fun vs H Q E h => ?_) (fun cdv A outer s H vs Q E hr h => ?_)
  · obtain ⟨x, dx, rfl, _⟩ := h
    rfl
  · obtain ⟨x, dx, rfl, hx, k⟩ := h
    refine ⟨_, PSs.nox (pss_cons (ps_if (pt_not (pt_val (pe_callB call_isi (by rfl) T.isinstance (by decide +kernel) (pa_cons (pv 1) (pa_cons (pe_bltn (v := .ty "str") (by rfl) T.str (by decide +kernel) rfl) pa_nil))))) (pss_one ps_never) pss_nil) (pss_cons (ps_asg (pe_cd D.parts (hr.mono (by decide)) pass0 (pa_cons (pe_split (pv 1) pe_str) (pa_cons (pv 2) pa_nil))) (pg_tup rfl (pgs_cons (pg_name (i := 3) scEnt.nd rfl (Or.inl rfl)) (pgs_cons (pg_name (i := 4) scEnt.nd rfl (Or.inl rfl)) (pgs_cons (pg_name (i := 5) scEnt.nd rfl (Or.inl rfl)) (pgs_cons (pg_name (i := 6) scEnt.nd rfl (Or.inl rfl)) pgs_nil))))))
        (pss_cons (ps_fld (pv 0) (pv 1) rfl)
        (pss_cons (ps_fld (pv 0) (pv 3) rfl)
        (pss_cons (ps_fld (pv 0) (pv 4) rfl)
        (pss_cons (ps_fld (pv 0) (pv 5) rfl)
        (pss_one (ps_fld (pv 0) (pv 6) rfl)))))))), ?_⟩
    refine ⟨_, rfl, .str "day 1 to 1", .ty "str", .type "str", .type "str", true, rfl, .ty _, .base (.str _), kit_ty (by decide +kernel), true, rfl, ifN rfl ?_⟩
    refine ⟨_, rfl, ⟨_, rfl⟩, _, _, rfl, rfl, (by decide +kernel), (by decide +kernel), fun l hl => ?_⟩
    rw [show (Txt.split ("day 1 to 1" : Str) " ").map V.str = [.str "day", .str "1", .str "to", .str "1"] from congrArg (List.map V.str) (by decide +kernel : Txt.split ("day 1 to 1" : Str) " " = (["day", "1", "to", "1"] : List Str))]
    refine ⟨_, rfl, l, rfl, upd_same, fun p hp => ?_⟩
    refine ⟨p, _, rfl, SqT.of upd_same, rfl, ?_⟩
    have xl : x ≠ l := ne_of_none hx hl
    have h1 : upd H l (.lst [.str "day", .str "1", .str "to", .str "1"]) x = some (.ins (He.ga K "Entry") dx []) := by rw [upd_ne xl]; exact hx
    have xp : x ≠ p := ne_of_none h1 hp
    have h2 : upd (upd H l (.lst [.str "day", .str "1", .str "to", .str "1"])) p (.tup [.str "day", .int 1, .int 1, .non]) x = some (.ins (He.ga K "Entry") dx []) := by rw [upd_ne xp]; exact h1
    have sm : Same H (upd (upd H l (.lst [.str "day", .str "1", .str "to", .str "1"])) p (.tup [.str "day", .int 1, .int 1, .non])) := (same_upd hl).trans (same_upd hp)
    generalize upd (upd H l (.lst [.str "day", .str "1", .str "to", .str "1"])) p (.tup [.str "day", .int 1, .int 1, .non]) = H2 at h2 sm ⊢
    refine ⟨_, _, rfl, ⟨_, _, rfl, ⟨_, _, rfl, ⟨_, _, rfl, rfl, ?_⟩⟩⟩⟩
    refine ⟨_, rfl, _, rfl, x, _, dx, _, rfl, h2, T.cl, T.n1, (by show 0 < 1000; decide), ?_⟩
    refine ⟨_, rfl, _, rfl, x, _, dx, _, rfl, upd_same, T.cl, T.n2, (by show 1 < 1000; decide), ?_⟩
    refine ⟨_, rfl, _, rfl, x, _, dx, _, rfl, upd_same, T.cl, T.n3, (by show 2 < 1000; decide), ?_⟩
    refine ⟨_, rfl, _, rfl, x, _, dx, _, rfl, upd_same, T.cl, T.n4, (by show 3 < 1000; decide), ?_⟩
    refine ⟨_, rfl, _, rfl, x, _, dx, _, rfl, upd_same, T.cl, T.n5, (by show 4 < 1000; decide), ?_⟩
    refine k _ (fun b o z n => ?_) ⟨dx, _, upd_same, by decide +kernel⟩
    rw [upd_ne n, upd_ne n, upd_ne n, upd_ne n, upd_ne n]
    exact sm b o z
end
end Wd

set_option maxHeartbeats 4000000
namespace Wd
open PySem PySem.Spec PyProof.Rows L2
theorem ifQ {b : Bool} {A B : Prop} (x : b = true → A) (y : b = false → B) : if b = true then A else B := by
  cases b
  · exact ifN rfl (y rfl)
  · exact ifB rfl (x rfl)
/-- flat data -/
inductive Fl : List V → List PyData → Prop
  | nil : Fl [] []
  | int {xs ds} (i : Int) : Fl xs ds → Fl (.int i :: xs) (.int i :: ds)
  | str {xs ds} (z : Str) : Fl xs ds → Fl (.str z :: xs) (.str z :: ds)
theorem Fl.all {K : PySem.W.Frag} {H : Hp} : ∀ {xs : List V} {ds : List PyData}, Fl xs ds → DpAll K H xs ds
  | _, _, .nil => .nil
  | _, _, .int i r => .cons (.int i) r.all
  | _, _, .str z r => .cons (.str z) r.all
inductive Wv (H : Hp) : V → PyData → Prop
  | non : Wv H .non .none
  | bl (b : Bool) : Wv H (.bl b) (.bool b)
  | int (i : Int) : Wv H (.int i) (.int i)
  | str (z : Str) : Wv H (.str z) (.str z)
  | tup {p : Addr} {xs : List V} {ds : List PyData} : H p = some (.tup xs) → Fl xs ds → Wv H (.ref p) (.tuple ds)
theorem Wv.dp {K : PySem.W.Frag} {H : Hp} {v : V} {d : PyData} (h : Wv H v d) : Dp K H v d := by
  cases h with
  | non => exact .non
  | bl b => exact .bl b
  | int i => exact .int i
  | str z => exact .str z
  | tup e r => exact .tup (SqT.of e) r.all
theorem Wv.same {H H' : Hp} {v : V} {d : PyData} (s : Same H H') (h : Wv H v d) : Wv H' v d := by
  cases h with
  | non => exact .non
  | bl b => exact .bl b
  | int i => exact .int i
  | str z => exact .str z
  | tup e r => exact .tup (s _ _ e) r
/-- what a law's worth may be -/
def Worth (C : Addr) (v : V) (H : Hp) : Prop := (∃ d, Wv H v d ∧ SeqAt.shaped d = true) ∨ ∃ x t, v = .ref x ∧ EntAt C x t H
theorem EntAt.same {C x : Addr} {t : Str} {H H' : Hp} (s : Same H H') (h : EntAt C x t H) : EntAt C x t H' := by
  obtain ⟨dx, fs, e, l⟩ := h
  exact ⟨dx, fs, s _ _ e, l⟩
theorem Worth.same {C : Addr} {v : V} {H H' : Hp} (s : Same H H') (h : Worth C v H) : Worth C v H' := by
  rcases h with ⟨d, h, k⟩ | ⟨x, t, e, h⟩
  · exact .inl ⟨d, h.same s, k⟩
  · exact .inr ⟨x, t, e, h.same s⟩
def spWorth (C : Addr) : Sp := fun vs H Q _ => ∃ (d l : Addr) (a n : Int), vs = [.ref d, .int n] ∧ Pen H d l a ∧ a ≤ 100000 ∧
  ∀ v a' H', a ≤ a' → a' ≤ a + 1 → Pen H' d l a' → But d H H' → Worth C v H' → Q v H'
theorem Pen.same {d l : Addr} {a : Int} {H H' : Hp} (s : Same H H') (h : Pen H d l a) : Pen H' d l a := by
  obtain ⟨cs, b, h1, h2, h3⟩ := h
  exact ⟨cs, b, s _ _ h1, s _ _ h2, h3⟩
section
variable {P : Program} {w : World} {K : PySem.W.Frag} {mg : Str → Option Value} {base : Heap} {f : Addr} {fd : FuncData}
theorem scEq : FnScope ["self", "other"] ["self", "other"] (defScope (inClass (top 33) 1)) := ⟨rfl, rfl, rfl, by decide +kernel, rfl, by decide +kernel, by decide +kernel⟩
theorem ok_eq (F : FunD K "__eq__" "Entry.__eq__" (defArgs (inClass (top 33) 1)) (defBody (inClass (top 33) 1)) (defScope (inClass (top 33) 1)) [] [] f fd) (T : TxtC K mg) :
    FnOk P w K mg base CX0 1 f fd ["self", "other"] (spEq (He.ga K "Entry")) := by
  refine F.ok scEq (fun vs H Q E h => ?_) (fun cdv A outer s H vs Q E hr h => ?_)
  · obtain ⟨x, t, rfl, _⟩ := h
    rfl
  · obtain ⟨x, t, rfl, ⟨dx, fs, hx, lk⟩, k⟩ := h
    refine ⟨_, PSs.nox (pss_one (ps_ret (pe_and (pe_callB call_isi (by rfl) T.isinstance (by decide +kernel) (pa_cons (pv 1) (pa_cons (pe_glob (v := .ref (He.ga K "Entry")) rfl T.Entry rfl) pa_nil))) (pe_one (pe_cmpR op_eq (pe_fld (pv 0) rfl) (pe_fld (pv 1) rfl) (nomark _)))))), ?_⟩
    refine ⟨_, rfl, .ref x, .ref (He.ga K "Entry"), .ref (He.ga K "Entry"), .ref (He.ga K "Entry"), true, rfl, .own _, .base (.ins hx T.cl T.cc T.cg T.ct T.ob), T.kt, true, rfl, iteT ?_⟩
    refine ⟨_, rfl, x, _, dx, fs, _, rfl, hx, T.cl, T.n1, lk, _, rfl, x, _, dx, fs, _, rfl, hx, T.cl, T.n1, lk, rfl, ?_⟩
    have z : decide (V.str t = V.str t) = true := decide_eq_true rfl
    rw [z]
    exact k
structure DWorth (P : Program) (w : World) (K : PySem.W.Frag) (mg : Str → Option Value) (base : Heap) : Prop extends DDraw P w K mg base where
  law_pick : Df P w K mg base CX0 2 "_law_pick" ["_law_pen_here", "_law_some"] (spPick K)
  entM : Mk K (He.ga K "Entry") (He.ma K (He.ga K "Entry") "__init__")
  entG : mg "Entry" = some (.ref (He.ga K "Entry"))
  entF : ∃ fd, FnOk P w K mg base CX0 3 (He.ma K (He.ga K "Entry") "__init__") fd ["self", "text", "digits"] (spEnt (He.ga K "Entry")) ∧ ∃ ds, Vals [V.int 30] ds ∧ Binds K fd ["self", "text", "digits"] ds
theorem scWorth : FnScope ["_law_pen_here", "_law_k"] ["_law_pen_here", "_law_k"] (defScope (top 45)) := ⟨rfl, rfl, rfl, by decide +kernel, rfl, by decide +kernel, by decide +kernel⟩
theorem ok_worth (F : FnG K "_law_worth" 45 f fd) (D : DWorth P w K mg base) : FnOk P w K mg base CX0 5 f fd ["_law_pen_here", "_law_k"] (spWorth (He.ga K "Entry")) := by
  refine F.ok scWorth (fun vs H Q E h => ?_) (fun cdv A outer s H vs Q E hr h => ?_)
  · obtain ⟨d, l, a, n, rfl, _⟩ := h
    rfl
  · obtain ⟨d, l, a, n, rfl, hp, ha, k⟩ := h
    obtain ⟨fdE, GE, ds, rds, bE⟩ := D.entF
    refine ⟨_, PSs.nox (pss_cons (ps_if (pt_cmpR op_in_seq (pv 1) (pe_tup (pa_cons pe_int (pa_cons pe_int (pa_cons pe_int (pa_cons pe_int (pa_cons pe_int (pa_cons pe_int pa_nil))))))) (by rfl)) (pss_one (ps_ret (pe_cd D.law_draw (hr.mono (by decide)) pass0 (pa_cons (pv 0) (pa_cons pe_int pa_nil))))) pss_nil)
        (pss_cons (ps_if (pt_cmpR op_in_seq (pv 1) (pe_tup (pa_cons pe_int (pa_cons pe_int pa_nil))) (by rfl)) (pss_one (ps_ret (pe_op op_add pe_int (pe_cd D.law_draw (hr.mono (by decide)) pass0 (pa_cons (pv 0) (pa_cons pe_int pa_nil)))))) pss_nil)
        (pss_cons (ps_if (pt_cmpR op_eq (pv 1) pe_int (nomark _)) (pss_one (ps_ret (pe_cd D.law_pick (hr.mono (by decide)) pass0 (pa_cons (pv 0) (pa_cons (pe_lst (pa_cons (pe_tup pa_nil) (pa_cons (pe_tup (pa_cons pe_str (pa_cons pe_str pa_nil))) pa_nil))) pa_nil))))) pss_nil)
        (pss_cons (ps_if (pt_cmpR op_in_seq (pv 1) (pe_tup (pa_cons pe_int (pa_cons pe_int pa_nil))) (by rfl)) (pss_one (ps_ret pe_str)) pss_nil)
        (pss_cons (ps_if (pt_cmpR op_eq (pv 1) pe_int (nomark _)) (pss_one (ps_ret (pe_make D.entM GE hr rfl D.entG bE rds pass0 (pa_cons pe_str pa_nil)))) pss_nil)
        (pss_cons (ps_if (pt_cmpR op_eq (pv 1) pe_int (nomark _)) (pss_one (ps_ret (pe_tup (pa_cons pe_int (pa_cons pe_int pa_nil))))) pss_nil)
        (pss_one (ps_ret (pe_cd D.law_pick (hr.mono (by decide)) pass0 (pa_cons (pv 0) (pa_cons (pe_lst (pa_cons pe_non (pa_cons pe_str (pa_cons (pe_un un_neg pe_int) (pa_cons (pe_op op_pow pe_int pe_int) (pa_cons (pe_tup (pa_cons pe_str (pa_cons pe_int pa_nil))) (pa_cons pe_bl pa_nil))))))) pa_nil))))))))))), ?_⟩
    have kk : ∀ (H1 : Hp), Same H H1 → ∀ v, Worth (He.ga K "Entry") v H1 → Q v H1 := fun H1 s1 v wv =>
      k v a H1 (Int.le_refl _) (by omega) (hp.same s1) (But.same s1) wv
    have dr : ∀ (H1 : Hp), Same H H1 → ∀ Q2 : VK, (∀ r H2, (∀ v, Worth (He.ga K "Entry") v H2 → Q v H2) → Q2 (.int r) H2) → spDraw [.ref d, .int 60] H1 Q2 E0 := fun H1 s1 Q2 q =>
      ⟨d, l, a, 60, rfl, hp.same s1, ha, by decide, by decide, fun r a' H2 _ _ g1 g2 p2 b2 => q r H2 fun v wv => k v a' H2 g1 g2 p2 ((But.same s1).trans b2) wv⟩
    have pk : ∀ (H1 : Hp) (t : Addr) (xs : List V), Same H H1 → H t = none → H1 t = some (.lst xs) → xs ≠ [] → xs.length ≤ 1000 → (∀ x H2, x ∈ xs → But d H1 H2 → Worth (He.ga K "Entry") x H2) → spPick K [.ref d, .ref t] H1 Q E0 := fun H1 t xs s1 nt ht hx hz wv => by
      obtain ⟨cs, b, hd, _⟩ := id hp
      exact ⟨d, l, t, a, xs, rfl, (ne_of_none hd nt).symm, hp.same s1, ha, ht, hx, hz, fun x a' H2 hx2 g1 g2 p2 b2 => k x a' H2 g1 g2 p2 ((But.same s1).trans b2) (wv x H2 hx2 b2)⟩
    obtain ⟨cs, b, hd, _⟩ := id hp
    have nd : ∀ {t : Addr} {H1 : Hp}, Same H H1 → H1 t = none → t ≠ d := fun s1 z e => by
      rw [e, s1 _ _ hd] at z
      cases z
    refine ⟨_, rfl, (by show 6 ≤ sizeLine; decide), fun p1 hp1 => ?_⟩
    have s1 : Same H (upd H p1 (.tup [.int 4, .int 5, .int 12, .int 13, .int 14, .int 19])) := same_upd hp1
    refine ⟨p1, _, rfl, .inr (SqT.of upd_same), rfl, rfl, _, rfl, ifQ (fun h1 => ?_) (fun h1 => ?_)⟩
    · exact ⟨_, rfl, dr _ s1 _ fun r H2 q => q _ (.inl ⟨_, .int r, by rfl⟩)⟩
    generalize upd H p1 (.tup [.int 4, .int 5, .int 12, .int 13, .int 14, .int 19]) = H1 at s1 ⊢
    refine ⟨_, rfl, (by show 2 ≤ sizeLine; decide), fun p2 hp2 => ?_⟩
    have s2 : Same H (upd H1 p2 (.tup [.int 0, .int 7])) := s1.trans (same_upd hp2)
    refine ⟨p2, _, rfl, .inr (SqT.of upd_same), rfl, rfl, _, rfl, ifQ (fun h2 => ?_) (fun h2 => ?_)⟩
    · refine ⟨_, rfl, ?_⟩
      refine dr _ s2 (fun y H3 => rI0 (fun i j => V.int (i + j)) (V.int 1) y H3 Q) fun r H2 q => ?_
      exact ⟨_, _, rfl, rfl, q _ (.inl ⟨_, .int (1 + r), by rfl⟩)⟩
    generalize upd H1 p2 (.tup [.int 0, .int 7]) = H2 at s2 ⊢
    refine ⟨_, rfl, rfl, _, rfl, ifC (fun h3 => ?_) (fun h3 => ?_)⟩
    · refine ⟨_, rfl, (by show 0 ≤ sizeLine; decide), fun t1 ht1 => ⟨(by show 2 ≤ sizeLine; decide), fun t2 ht2 => ⟨(by show 2 ≤ sizeLine; decide), fun t3 ht3 => ?_⟩⟩⟩
      have g1 := same_upd (o := .tup []) ht1
      have g2 := same_upd (o := .tup [.str "a", .str "b"]) ht2
      have g3 := same_upd (o := .lst [.ref t1, .ref t2]) ht3
      refine pk _ t3 _ (s2.trans (g1.trans (g2.trans g3))) (Same.free (s2.trans (g1.trans g2)) ht3) upd_same (List.cons_ne_nil _ _) (by show 2 ≤ 1000; decide) fun x H4 hx b4 => ?_
      rcases List.mem_cons.mp hx with rfl | hx
      · exact .inl ⟨_, .tup (b4 t1 _ (g3 _ _ (g2 _ _ upd_same)) (nd s2 ht1)) .nil, by decide +kernel⟩
      · rcases List.mem_cons.mp hx with rfl | hx
        · exact .inl ⟨_, .tup (b4 t2 _ (g3 _ _ upd_same) (nd (s2.trans g1) ht2)) (.str _ (.str _ .nil)), by decide +kernel⟩
        · cases hx
    refine ⟨_, rfl, (by show 2 ≤ sizeLine; decide), fun p4 hp4 => ?_⟩
    have s4 : Same H (upd H2 p4 (.tup [.int 11, .int 18])) := s2.trans (same_upd hp4)
    refine ⟨p4, _, rfl, .inr (SqT.of upd_same), rfl, rfl, _, rfl, ifQ (fun h4 => ?_) (fun h4 => ?_)⟩
    · exact kk _ s4 _ (.inl ⟨_, .str _, by decide +kernel⟩)
    generalize upd H2 p4 (.tup [.int 11, .int 18]) = H4 at s4 ⊢
    refine ⟨_, rfl, rfl, _, rfl, ifC (fun h5 => ?_) (fun h5 => ?_)⟩
    · intro x dx nx ndx ne
      refine ⟨x, dx, rfl, upd_same, fun H6 kp en => ⟨rfl, ?_⟩⟩
      have g1 : Same H H6 := s4.trans fun b o z => kp b o (by rw [upd_ne (ne_of_none z nx), upd_ne (ne_of_none z ndx)]; exact z) (ne_of_none z nx)
      exact kk _ g1 _ (.inr ⟨x, _, rfl, en⟩)
    refine ⟨_, rfl, rfl, _, rfl, ifC (fun h6 => ?_) (fun h6 => ?_)⟩
    · exact ⟨(by show 2 ≤ sizeLine; decide), fun p7 hp7 => kk _ (s4.trans (same_upd hp7)) _ (.inl ⟨_, .tup upd_same (.int _ (.int _ .nil)), by decide +kernel⟩)⟩
    refine ⟨_, rfl, _, rfl, 10, 40, rfl, rfl, ⟨by decide, by decide, by decide⟩, (by show 2 ≤ sizeLine; decide), fun t1 ht1 => ⟨(by show 6 ≤ sizeLine; decide), fun t3 ht3 => ?_⟩⟩
    have g1 := same_upd (o := .tup [.str "a", .int 1]) ht1
    have g3 := same_upd (o := .lst [.non, .str "word", .int (-3), .int (10 ^ (40 : Int).toNat), .ref t1, .bl true]) ht3
    refine pk _ t3 _ (s4.trans (g1.trans g3)) (Same.free (s4.trans g1) ht3) upd_same (List.cons_ne_nil _ _) (by show 6 ≤ 1000; decide) fun x H8 hx b8 => ?_
    rcases List.mem_cons.mp hx with rfl | hx
    · exact .inl ⟨_, .non, by decide +kernel⟩
    rcases List.mem_cons.mp hx with rfl | hx
    · exact .inl ⟨_, .str _, by decide +kernel⟩
    rcases List.mem_cons.mp hx with rfl | hx
    · exact .inl ⟨_, .int _, by rfl⟩
    rcases List.mem_cons.mp hx with rfl | hx
    · exact .inl ⟨_, .int _, by rfl⟩
    rcases List.mem_cons.mp hx with rfl | hx
    · exact .inl ⟨_, .tup (b8 t1 _ (g3 _ _ upd_same) (nd s4 ht1)) (.str _ (.int _ .nil)), by decide +kernel⟩
    rcases List.mem_cons.mp hx with rfl | hx
    · exact .inl ⟨_, .bl _, by decide +kernel⟩
    · cases hx
end
end Wd

set_option maxHeartbeats 4000000
namespace Wd
open PySem PySem.Spec PyProof.Rows L2
theorem op_either {X : Cx} {f : Value → Value → Sem Value} {r1 r2 : R2} (h1 : OpR X f r1) (h2 : OpR X f r2) : OpR X f (fun x y H Q => r1 x y H Q ∨ r2 x y H Q) := by
  intro pins s σ H x y v u Q I rx ry h
  rcases h with h | h
  · exact h1 pins s σ H x y v u Q I rx ry h
  · exact h2 pins s σ H x y v u Q I rx ry h
theorem lay_b : ∀ bs : List Bool, PyData.canLayAll0 (bs.map PyData.bool) = true ∧ PyData.depthAll (bs.map PyData.bool) ≤ 1
  | [] => by simp [PyData.canLayAll0, PyData.depthAll]
  | b :: r => by
    obtain ⟨h1, h2⟩ := lay_b r
    refine ⟨by simp [PyData.canLayAll0, PyData.canLay0, h1], ?_⟩
    simp only [List.map_cons, PyData.depthAll, PyData.depth]
    omega
theorem shaped_b (bs : List Bool) : SeqAt.shaped (.list (bs.map PyData.bool)) = true := by
  obtain ⟨h1, h2⟩ := lay_b bs
  unfold SeqAt.shaped
  rw [Bool.and_eq_true]
  refine ⟨by simpa [PyData.canLay0] using h1, decide_eq_true ?_⟩
  simp only [PyData.depth]
  omega
theorem dp_b {K : PySem.W.Frag} {H : Hp} : ∀ bs : List Bool, DpAll K H (bs.map V.bl) (bs.map PyData.bool)
  | [] => .nil
  | b :: r => .cons (.bl b) (dp_b r)
structure DLaw (P : Program) (w : World) (K : PySem.W.Frag) (mg : Str → Option Value) (base : Heap) : Prop extends DKinds P w K mg base where
  range : mg "range" = none
  ve : mg "ValueError" = none
  wde : mg "WhosedayError" = some (.ref (He.ga K "WhosedayError"))
  kit2 : ∀ i, i < 23 → PySem.W.kitOne K (.ref (cl K i)) (.ref (He.ga K "WhosedayError")) = some true ∧ PySem.W.kitOne K (.ref (cl K i)) (.type "ValueError") = some true
  law_pen : Df P w K mg base CX0 1 "_law_pen" ["_law_script"] (spPen K)
  law_worth : Df P w K mg base CX0 5 "_law_worth" ["_law_pen_here", "_law_k"] (spWorth (He.ga K "Entry"))
  law_made_early : Df P w K mg base CX0 4 "_law_made_early" ["_law_k", "_law_worth_here"] (spMade 0 K)
  law_kinds : Df P w K mg base CX0 1 "_law_kinds" ["_law_e"] (spKinds K)
  eqF : ∃ f fd, FnOk P w K mg base CX0 1 f fd ["self", "other"] (spEq (He.ga K "Entry")) ∧ PySem.W.findIn K (.ref (He.ga K "Entry")) "__eq__" = some (some (.ref f)) ∧
    PySem.W.isFn K (.ref f) = true ∧ Binds K fd ["self", "other"] []
  eN : PySem.W.findIn K (.ref (He.ga K "Entry")) "__ne__" = some (some (.builtin "object.__ne__"))
  eO : PySem.W.mroIn K (He.ga K "Entry") (.type "object") = some true
def spLaw (K : PySem.W.Frag) : Sp := fun vs H Q _ => ∃ (a : Addr) (ns : List Int), vs = [.ref a] ∧ SqL K H a (ns.map V.int) ∧ ns.length ≤ 63 ∧ ∀ H', Q (.bl true) H'
section
variable {P : Program} {w : World} {K : PySem.W.Frag} {mg : Str → Option Value} {base : Heap} {f : Addr} {fd : FuncData}
theorem scLaw : FnScope ["_law_script", "_law_pen_here", "_law_k", "_law_worth_here", "_law_error", "_law_kept", "_law_j"] ["_law_script"] (defScope (top 46)) := ⟨rfl, rfl, rfl, by decide +kernel, rfl, by decide +kernel, by decide +kernel⟩
theorem ok_law (F : FnG K "law" 46 f fd) (D : DLaw P w K mg base) : FnOk P w K mg base CX0 7 f fd ["_law_script"] (spLaw K) := by
  refine F.ok scLaw (fun vs H Q E h => ?_) (fun cdv A outer s H vs Q E hr h => ?_)
  · obtain ⟨a, ns, rfl, _⟩ := h
    rfl
  · obtain ⟨a, ns, rfl, hs, hz, k⟩ := h
    have hu64 := hr.units
    obtain ⟨fE, fdE, GE, he, hf, bE⟩ := D.eqF
    refine ⟨_, PSs.nox (pss_cons (ps_set (i := 1) scLaw.nd rfl (Or.inl rfl) (pe_cd D.law_pen (hr.mono (by decide)) pass0 (pa_cons (pv 0) pa_nil)))
        (pss_cons (ps_for PassesOwn.never rfl (pi_range1 (by rfl) D.range (pa_cons pe_int pa_nil)) (pg_name (i := 2) scLaw.nd rfl (Or.inr rfl)) (pss_cons (ps_set (i := 3) scLaw.nd rfl (Or.inl rfl) (pe_cd D.law_worth (hr.mono (by decide)) pass0 (pa_cons (pv 1) (pa_cons (pv 2) pa_nil))))
        (pss_cons (ps_asg (pe_cd D.law_made_early (hr.mono (by decide)) pass0 (pa_cons (pv 2) (pa_cons (pv 3) pa_nil))) (pg_tup rfl (pgs_cons (pg_name (i := 4) scLaw.nd rfl (Or.inl rfl)) (pgs_cons (pg_name (i := 5) scLaw.nd rfl (Or.inl rfl)) pgs_nil))))
        (pss_cons (ps_if (PW.pt (pw_or (pt_cmpR (op_either (op_neD hu64) (op_neO GE (hr.mono (by decide)) he D.eN D.eO hf bE pass0)) (pv 5) (pv 3) (nomark _)) (pw_or (pt_not (pt_val (pe_callB call_errIs (by rfl) D.isinstance (by decide +kernel) (pa_cons (pv 4) (pa_cons (pe_glob (v := .ref (He.ga K "WhosedayError")) rfl D.wde rfl) pa_nil))))) (pw_or1 (pt_not (pt_val (pe_callB call_errIs (by rfl) D.isinstance (by decide +kernel) (pa_cons (pv 4) (pa_cons (pe_bltn (v := .ty "ValueError") (by rfl) D.ve (by decide +kernel) rfl) pa_nil))))))))) (pss_one (ps_ret pe_bl)) pss_nil)
        (pss_one (ps_if (pt_cmpR (op_neD hu64) (pe_cd D.law_kinds (hr.mono (by decide)) pass0 (pa_cons (pv 4) pa_nil)) (pe_lc (own := [("_law_j", 6)]) (g := gName 6) (tt := tYes) rfl scLaw.nd (pi_range1 (by rfl) D.range (pa_cons pe_int pa_nil)) (blkOk_by (own := [("_law_j", 6)]) (N := ["_law_script", "_law_pen_here", "_law_k", "_law_worth_here", "_law_error", "_law_kept", "_law_j"]) (sc := defScope (top 46)) (by decide +kernel)) (fun _ _ _ _ _ => pg_name (i := 6) scLaw.nd rfl (Or.inl rfl)) (fun _ _ _ _ _ => pts_nil) (fun _ _ _ _ _ => pe_cmpR op_eq (pv 6) (pv 2) (nomark _))) (nomark _)) (pss_one (ps_ret pe_bl)) pss_nil))))))
        (pss_one (ps_ret pe_bl)))), ?_⟩
    refine ⟨_, rfl, a, ns, rfl, hs, hz, fun H1 d l s1 nd nl p1 => ?_⟩
    refine ⟨23, rfl, by decide, by decide, for_range (lo := 0) (n := 23)
      (fun i σ H => ∃ (n : Int) (x2 x3 x4 x5 x6 : Option V), σ = [some (.ref a), some (.ref d), x2, x3, x4, x5, x6] ∧ Pen H d l n ∧ n ≤ i)
      ⟨0, none, none, none, none, none, rfl, p1, Int.le_refl 0⟩ ?_ ?_⟩
    · rintro i σ H2 hi ⟨n, x2, x3, x4, x5, x6, rfl, p2, hn⟩
      have hcl : cl K ((0 : Int) + (i : Int)).toNat = cl K i := by rw [Int.zero_add, Int.toNat_natCast]
      refine ⟨_, rfl, _, rfl, d, l, n, _, rfl, p2, by omega, fun v n' H3 g1 g2 p3 b3 wv => ?_⟩
      refine ⟨_, rfl, _, rfl, 0 + (i : Int), v, rfl, by omega, by omega, fun p e H4 s4 hp at_ => ?_⟩
      obtain ⟨fs, at_⟩ := at_
      rw [hcl] at at_
      refine ⟨p, _, rfl, SqT.of hp, rfl, _, _, rfl, _, _, rfl, rfl, ?_⟩
      have ec := D.errA i hi
      obtain ⟨kw, kv⟩ := D.kit2 i hi
      have w4 := wv.same s4
      refine ⟨_, rfl, _, rfl, ?_⟩
      rcases w4 with ⟨dt, w5, sh⟩ | ⟨x, t, rfl, dx, gs, hx, lk⟩
      all_goals first
        | (refine .inl ⟨dt, dt, w5.dp, w5.dp, sh, sh, _, rfl, ifN (by rw [SeqAt.eqv_refl dt (SeqAt.canLay_of_shaped sh)]; rfl) ?_⟩)
        | (refine .inr ⟨x, x, dx, dx, gs, gs, rfl, rfl, hx, hx, x, t, rfl, ⟨dx, gs, hx, lk⟩, true, rfl, _, rfl, ifN rfl ?_⟩)
      all_goals
        refine ⟨_, rfl, e, _, fs, _, _, _, rfl, ec, at_, .own _, kw, true, rfl, ifN rfl ?_⟩
        refine ⟨_, rfl, e, _, fs, _, _, _, rfl, ec, at_, .ty _, kv, true, rfl, ifN rfl ?_⟩
        refine ⟨_, rfl, e, i, fs, rfl, hi, at_, fun q1 H5 s5 l5 => ?_⟩
        refine ⟨23, rfl, by decide, by decide, fun D2 hD2 => lc_range (lo := 0) (n := 23)
          (fun j H6 => Same H5 H6 ∧ H6 D2 = some (.lst ((List.range j).map fun m => V.bl (decide (i = m))))) ⟨same_upd hD2, upd_same⟩ ?_ ?_⟩
        · rintro j H6 hj ⟨s6, l6⟩
          refine ⟨rfl, ?_⟩
          refine iteT (B := Same H5 H6 ∧ H6 D2 = some (.lst ((List.range (j + 1)).map fun m => V.bl (decide (i = m))))) ?_
          refine ⟨_, rfl, _, rfl, rfl, _, l6, (by rw [List.length_map, List.length_range, sizeLine_eq]; omega), fun b o z => ?_, ?_⟩
          · rw [upd_ne (ne_of_none z hD2)]
            exact s6 b o z
          · rw [upd_same, List.range_succ, List.map_append]
            have z : decide (V.int ((0 : Int) + (j : Int)) = V.int ((0 : Int) + (i : Int))) = decide (i = j) := by
              refine decide_eq_decide.mpr ⟨fun h => ?_, fun h => by rw [h]⟩
              have := V.int.inj h
              omega
            rw [z]
            rfl
        · rintro H7 ⟨s7, l7⟩
          have em : ((List.range 23).map fun j => V.bl (decide (i = j))) = ((List.range 23).map fun j => decide (i = j)).map V.bl := by
            rw [List.map_map]
            rfl
          rw [em] at l5 l7
          generalize ((List.range 23).map fun j => decide (i = j)) = bs at l5 l7
          refine ⟨_, _, .lst (SqL.of (s7 _ _ l5)) (dp_b bs), .lst (SqL.of l7) (dp_b bs), shaped_b bs, shaped_b bs, _, rfl,
            ifN (by rw [SeqAt.eqv_refl _ (SeqAt.canLay_of_shaped (shaped_b bs))]; rfl) ?_⟩
          exact ⟨n', _, _, _, _, _, rfl, p3.same (s4.trans (s5.trans s7)), by omega⟩
    · rintro σ H2 _
      exact k H2
end
end Wd

set_option maxHeartbeats 4000000
namespace Wd
open PySem PySem.Spec PyProof.Rows L2
section
variable {P : Program} {w : World} {K : PySem.W.Frag} {h : Heap} {mg : Str → Option Value} {base : Heap}
theorem er_of {x f : Str} {fd : FuncData} (X : K.In h) (G : h.Ns mainGlobals mg) (g : ((He.Fa.glo x).ok K && errB K (He.ga K x)) = true) (c : clsB K = true) (e : iniB K x f = true)
    (ok : OexC K (He.ga K x) → PySem.W.findIn K (.ref (He.ga K x)) f = some none →
      FnOk P w K mg base CX0 1 (He.ma K (He.ga K x) "__init__") fd ["self", f] (spIni (He.ga K x) f K) ∧ Binds K fd ["self", f] []) : Er P w K mg base x f := by
  obtain ⟨g1, g2⟩ := He.ba g
  obtain ⟨e1, e⟩ := He.ba e
  obtain ⟨e2, e⟩ := He.ba e
  obtain ⟨e3, e4⟩ := He.ba e
  have ec := errC_of g2 c
  have ox := oexC_of ec.be e1
  obtain ⟨o1, o2⟩ := ok ox (He.eqO_ok e2)
  exact ⟨He.glo_ok X G g1, ox, ec, He.eqO_ok e2, _, fd, He.eqO_ok e3, of_decide_eq_true e4, o1, o2⟩
theorem df_of {x : Str} {st : Stmt} {f : Addr} {fd : FuncData} {ps : List Str} {k : Nat} {sp : Sp} (F : FunD K x x (defArgs st) (defBody st) (defScope st) [] [] f fd) (gl : mg x = some (.ref f)) (G : FnOk P w K mg base CX0 k f fd ps sp)
    (b : Binds K fd ps []) : Df P w K mg base CX0 k x ps sp := ⟨f, fd, G, gl, F.kp, b⟩
theorem kit1_ok (h : kitB1 K = true) (i j : Nat) (hi : i < 23) (hj : j < 23) : PySem.W.kitOne K (.ref (cl K i)) (.ref (cl K j)) = some (decide (i = j)) :=
  of_decide_eq_true (List.all_eq_true.mp (List.all_eq_true.mp h i (List.mem_range.mpr hi)) j (List.mem_range.mpr hj))
theorem kit2_ok (h : kitB2 K = true) (i : Nat) (hi : i < 23) : PySem.W.kitOne K (.ref (cl K i)) (.ref (He.ga K "WhosedayError")) = some true ∧ PySem.W.kitOne K (.ref (cl K i)) (.type "ValueError") = some true := by
  obtain ⟨a, b⟩ := He.ba (List.all_eq_true.mp h i (List.mem_range.mpr hi))
  exact ⟨of_decide_eq_true a, of_decide_eq_true b⟩
theorem facts {f : Addr} (X : K.In h) (G : h.Ns mainGlobals mg) (hfa : mg ("law" : Str) = some (.ref f)) (c : SaysT q fn K) :
    ∃ fd : FuncData, (∀ (s : Shared) (v : Value), BindsTo s fd ⟨[v], []⟩ [("_law_script", v)]) ∧ ∀ base : Heap, K.In base → base.Ns mainGlobals mg → FnOk P w K mg base CX0 7 f fd ["_law_script"] (spLaw K) := by
  obtain ⟨t1, t⟩ := He.ba c.test
  obtain ⟨t2, t⟩ := He.ba t
  obtain ⟨t3, t⟩ := He.ba t
  obtain ⟨t4, t⟩ := He.ba t
  obtain ⟨t5, t⟩ := He.ba t
  obtain ⟨t6, t7⟩ := He.ba t
  have fa : ∀ (i : Nat) {u : He.Fa}, fas[i]? = some u → u.ok K = true := fun i u z => List.all_eq_true.mp t1 u (List.mem_of_getElem? z)
  have fe : ∀ (i : Nat) {x : Str}, nms[i]? = some x → ((He.Fa.glo x).ok K && errB K (He.ga K x)) = true := fun i x z => List.all_eq_true.mp t2 x (List.mem_of_getElem? z)
  have fi : ∀ (i : Nat) {p : Str × Str}, errs[i]? = some p → iniB K p.1 p.2 = true := fun i p z => List.all_eq_true.mp t3 p (List.mem_of_getElem? z)
  obtain ⟨c1, c2⟩ := He.ba t7
  obtain ⟨n1, n⟩ := He.ba t6
  obtain ⟨n2, n⟩ := He.ba n
  obtain ⟨n3, n⟩ := He.ba n
  obtain ⟨n4, n5⟩ := He.ba n
  obtain ⟨d0, F0⟩ := c.def_ 0 rfl
  obtain ⟨d1, F1⟩ := c.def_ 1 rfl
  obtain ⟨d2, F2⟩ := c.def_ 2 rfl
  obtain ⟨d3, F3⟩ := c.def_ 3 rfl
  obtain ⟨d4, F4⟩ := c.def_ 4 rfl
  obtain ⟨d5, F5⟩ := c.def_ 5 rfl
  obtain ⟨d6, F6⟩ := c.def_ 6 rfl
  obtain ⟨d7, F7⟩ := c.def_ 7 rfl
  obtain ⟨d8, F8⟩ := c.def_ 8 rfl
  obtain ⟨d9, F9⟩ := c.def_ 9 rfl
  obtain ⟨d10, F10⟩ := c.def_ 10 rfl
  obtain ⟨d11, F11⟩ := c.def_ 11 rfl
  obtain ⟨d12, F12⟩ := c.def_ 12 rfl
  have F0 : FnG K "law" 46 (He.ga K "law") d0 := F0
  have F1 : FnG K "_law_pen" 39 (He.ga K "_law_pen") d1 := F1
  have F2 : FnG K "_law_draw" 40 (He.ga K "_law_draw") d2 := F2
  have F3 : FnG K "_law_pick" 41 (He.ga K "_law_pick") d3 := F3
  have F4 : FnG K "_law_made_early" 42 (He.ga K "_law_made_early") d4 := F4
  have F5 : FnG K "_law_made_late" 43 (He.ga K "_law_made_late") d5 := F5
  have F6 : FnG K "_law_kinds" 44 (He.ga K "_law_kinds") d6 := F6
  have F7 : FnG K "_law_worth" 45 (He.ga K "_law_worth") d7 := F7
  have F9 : FnG K "is_kind" 35 (He.ga K "is_kind") d9 := F9
  have F10 : FnG K "_parts" 37 (He.ga K "_parts") d10 := F10
  have F8 : FunD K "number_in" "number_in" (defArgs (top 29)) (defBody (top 29)) (defScope (top 29)) [.int 30] [] (He.ga K "number_in") d8 := F8
  have F11 : FunD K "__init__" "Entry.__init__" (defArgs (inClass (top 33) 0)) (defBody (inClass (top 33) 0)) (defScope (inClass (top 33) 0)) [] [("digits", .int 30)] (He.ma K (He.ga K "Entry") "__init__") d11 := F11
  have F12 : FunD K "__eq__" "Entry.__eq__" (defArgs (inClass (top 33) 1)) (defBody (inClass (top 33) 1)) (defScope (inClass (top 33) 1)) [] [] (He.ma K (He.ga K "Entry") "__eq__") d12 := F12
  obtain ⟨e0, E0⟩ := c.def_ 13 rfl
  obtain ⟨e1, E1⟩ := c.def_ 14 rfl
  obtain ⟨e2, E2⟩ := c.def_ 15 rfl
  obtain ⟨e3, E3⟩ := c.def_ 16 rfl
  obtain ⟨e4, E4⟩ := c.def_ 17 rfl
  obtain ⟨e5, E5⟩ := c.def_ 18 rfl
  obtain ⟨e6, E6⟩ := c.def_ 19 rfl
  obtain ⟨e7, E7⟩ := c.def_ 20 rfl
  obtain ⟨e8, E8⟩ := c.def_ 21 rfl
  obtain ⟨e9, E9⟩ := c.def_ 22 rfl
  obtain ⟨e10, E10⟩ := c.def_ 23 rfl
  obtain ⟨e11, E11⟩ := c.def_ 24 rfl
  obtain ⟨e12, E12⟩ := c.def_ 25 rfl
  obtain ⟨e13, E13⟩ := c.def_ 26 rfl
  obtain ⟨e14, E14⟩ := c.def_ 27 rfl
  obtain ⟨e15, E15⟩ := c.def_ 28 rfl
  obtain ⟨e16, E16⟩ := c.def_ 29 rfl
  obtain ⟨e17, E17⟩ := c.def_ 30 rfl
  obtain ⟨e18, E18⟩ := c.def_ 31 rfl
  obtain ⟨e19, E19⟩ := c.def_ 32 rfl
  have e := hfa.symm.trans (He.glo_ok X G (fa 0 (u := .glo "law") rfl))
  cases e
  have bl := FunD.bindsA (ps := ["_law_script"]) F0 fun _ _ _ _ _ _ us hl => match us, hl with | [_], _ => rfl
  refine ⟨d0, fun s v => bl s [v] rfl, fun base _ _ => ?_⟩
  have TP : TxtP mg := ⟨He.free_ok X G (fa 13 (u := .free "list") rfl), He.free_ok X G (fa 14 (u := .free "int") rfl), He.free_ok X G (fa 15 (u := .free "len") rfl)⟩
  have TE : TxtE K mg := ⟨TP.int, TP.len, He.free_ok X G (fa 16 (u := .free "isinstance") rfl), He.free_ok X G (fa 17 (u := .free "str") rfl), He.glo_ok X G (fa 31 (u := .glo "KINDS") rfl), fun H => He.tupB_ok n5 H⟩
  have TC : TxtC K mg := ⟨TE, He.cls_ok (fa 20 (u := .cls "Entry") rfl), He.noat_ok (fa 23 (u := .noat "Entry" "text") rfl), He.noat_ok (fa 24 (u := .noat "Entry" "kind") rfl), He.noat_ok (fa 25 (u := .noat "Entry" "first") rfl),
    He.noat_ok (fa 26 (u := .noat "Entry" "last") rfl), He.noat_ok (fa 27 (u := .noat "Entry" "zone") rfl), He.glo_ok X G (fa 11 (u := .glo "Entry") rfl), He.eqO_ok n2, He.eqO_ok c1, of_decide_eq_true c2, of_decide_eq_true n3, of_decide_eq_true n4⟩
  have Ddraw : DDraw P w K mg base := ⟨df_of F2 (He.glo_ok X G (fa 2 (u := .glo "_law_draw") rfl)) (ok_draw F2 TP) (F2.bindsN fun _ _ _ _ _ _ us hl => match us, hl with | [_, _], _ => rfl)⟩
  have Bnum : Binds K d8 ["word", "digits"] [] := by
    obtain ⟨ds, r, b⟩ := F8.binds1 (ps := ["word", "digits"]) 2 1 (List.cons_ne_nil _ _) rfl fun _ _ _ _ _ _ _ us its h1 h2 => match us, its, h1, h2 with | [_, _], [_], _, _ => ⟨_, rfl, rfl⟩
    cases r
    exact b
  have Dparts : DParts P w K mg base := ⟨⟨_, d8, ok_num F8 TE, He.glo_ok X G (fa 8 (u := .glo "number_in") rfl), F8.kp, Bnum⟩,
    df_of F9 (He.glo_ok X G (fa 9 (u := .glo "is_kind") rfl)) (ok_isk F9 TE) (F9.bindsN fun _ _ _ _ _ _ us hl => match us, hl with | [_], _ => rfl)⟩
  have Dent : DEnt P w K mg base := ⟨df_of F10 (He.glo_ok X G (fa 10 (u := .glo "_parts") rfl)) (ok_parts F10 TE Dparts) (F10.bindsN fun _ _ _ _ _ _ us hl => match us, hl with | [_, _], _ => rfl)⟩
  have Bent : ∃ ds, Vals [V.int 30] ds ∧ Binds K d11 ["self", "text", "digits"] ds :=
    F11.binds0 (ps := ["self", "text", "digits"]) 2 (List.cons_ne_nil _ _) rfl fun _ _ _ _ _ _ us ks h1 h2 => match us, ks, h1, h2 with | [_, _], [_], _, _ => ⟨_, _, _, _, _, _, rfl, rfl, rfl⟩
  have Dworth : DWorth P w K mg base := ⟨Ddraw, df_of F3 (He.glo_ok X G (fa 3 (u := .glo "_law_pick") rfl)) (ok_pick F3 TP Ddraw) (F3.bindsN fun _ _ _ _ _ _ us hl => match us, hl with | [_, _], _ => rfl),
    He.mkr_ok (fa 21 (u := .mkr "Entry") rfl), TC.Entry, d11, ok_ent F11 TC Dent, Bent⟩
  have R0 : Er P w K mg base "BadText" "line" := er_of X G (fe 0 rfl) t7 (fi 0 (p := ("BadText", "line")) rfl) fun T n => ok_BadText E0 T n
  have R1 : Er P w K mg base "BadName" "name" := er_of X G (fe 1 rfl) t7 (fi 1 (p := ("BadName", "name")) rfl) fun T n => ok_BadName E1 T n
  have R2 : Er P w K mg base "NoZone" "name" := er_of X G (fe 2 rfl) t7 (fi 2 (p := ("NoZone", "name")) rfl) fun T n => ok_NoZone E2 T n
  have R3 : Er P w K mg base "NoProgram" "name" := er_of X G (fe 3 rfl) t7 (fi 3 (p := ("NoProgram", "name")) rfl) fun T n => ok_NoProgram E3 T n
  have R4 : Er P w K mg base "NoRoute" "index" := er_of X G (fe 4 rfl) t7 (fi 4 (p := ("NoRoute", "index")) rfl) fun T n => ok_NoRoute E4 T n
  have R5 : Er P w K mg base "BadPiece" "index" := er_of X G (fe 5 rfl) t7 (fi 5 (p := ("BadPiece", "index")) rfl) fun T n => ok_BadPiece E5 T n
  have R6 : Er P w K mg base "BadNumber" "number" := er_of X G (fe 6 rfl) t7 (fi 6 (p := ("BadNumber", "number")) rfl) fun T n => ok_BadNumber E6 T n
  have R7 : Er P w K mg base "TooMany" "most" := er_of X G (fe 7 rfl) t7 (fi 7 (p := ("TooMany", "most")) rfl) fun T n => ok_TooMany E7 T n
  have R8 : Er P w K mg base "BadKind" "kind" := er_of X G (fe 8 rfl) t7 (fi 8 (p := ("BadKind", "kind")) rfl) fun T n => ok_BadKind E8 T n
  have R9 : Er P w K mg base "BadRule" "rule" := er_of X G (fe 9 rfl) t7 (fi 9 (p := ("BadRule", "rule")) rfl) fun T n => ok_BadRule E9 T n
  have R10 : Er P w K mg base "BadOffsets" "offsets" := er_of X G (fe 10 rfl) t7 (fi 10 (p := ("BadOffsets", "offsets")) rfl) fun T n => ok_BadOffsets E10 T n
  have R11 : Er P w K mg base "NoHours" "program" := er_of X G (fe 11 rfl) t7 (fi 11 (p := ("NoHours", "program")) rfl) fun T n => ok_NoHours E11 T n
  have R12 : Er P w K mg base "BadChange" "index" := er_of X G (fe 12 rfl) t7 (fi 12 (p := ("BadChange", "index")) rfl) fun T n => ok_BadChange E12 T n
  have R13 : Er P w K mg base "BadLook" "index" := er_of X G (fe 13 rfl) t7 (fi 13 (p := ("BadLook", "index")) rfl) fun T n => ok_BadLook E13 T n
  have R14 : Er P w K mg base "TooWide" "index" := er_of X G (fe 14 rfl) t7 (fi 14 (p := ("TooWide", "index")) rfl) fun T n => ok_TooWide E14 T n
  have R15 : Er P w K mg base "NotTogether" "looks" := er_of X G (fe 15 rfl) t7 (fi 15 (p := ("NotTogether", "looks")) rfl) fun T n => ok_NotTogether E15 T n
  have R16 : Er P w K mg base "BadEntry" "entry" := er_of X G (fe 16 rfl) t7 (fi 16 (p := ("BadEntry", "entry")) rfl) fun T n => ok_BadEntry E16 T n
  have R17 : Er P w K mg base "NotARing" "names" := er_of X G (fe 17 rfl) t7 (fi 17 (p := ("NotARing", "names")) rfl) fun T n => ok_NotARing E17 T n
  have R18 : Er P w K mg base "NotHeld" "name" := er_of X G (fe 18 rfl) t7 (fi 18 (p := ("NotHeld", "name")) rfl) fun T n => ok_NotHeld E18 T n
  have R19 : Er P w K mg base "BadDeed" "index" := er_of X G (fe 19 rfl) t7 (fi 19 (p := ("BadDeed", "index")) rfl) fun T n => ok_BadDeed E19 T n
  have Z0 := He.exc_ok (fa 28 (u := .exc "NothingToUndo") rfl)
  obtain ⟨z0a, z0b⟩ := He.ba (fe 20 (x := "NothingToUndo") rfl)
  have Z1 := He.exc_ok (fa 29 (u := .exc "OtherPrograms") rfl)
  obtain ⟨z1a, z1b⟩ := He.ba (fe 21 (x := "OtherPrograms") rfl)
  have Z2 := He.exc_ok (fa 30 (u := .exc "OtherRoutes") rfl)
  obtain ⟨z2a, z2b⟩ := He.ba (fe 22 (x := "OtherRoutes") rfl)
  have RS : Ers P w K mg base := ⟨R0, R1, R2, R3, R4, R5, R6, R7, R8, R9, R10, R11, R12, R13, R14, R15, R16, R17, R18, R19, ⟨He.glo_ok X G z0a, Z0.1, Z0.2.1, errC_of z0b t7⟩, ⟨He.glo_ok X G z1a, Z1.1, Z1.2.1, errC_of z1b t7⟩, ⟨He.glo_ok X G z2a, Z2.1, Z2.2.1, errC_of z2b t7⟩⟩
  have ea : ∀ i, i < 23 → ErrC K (cl K i) := fun i hi => by
    have hn : nms[i]? = some (nm i) := by
      have e : nms.length = 23 := rfl
      unfold nm
      rw [List.getD_eq_getElem?_getD, List.getElem?_eq_getElem (by rw [e]; exact hi)]
      rfl
    exact errC_of (He.ba (fe i hn)).2 t7
  have DK : DKinds P w K mg base := ⟨RS, TE.isinstance, ea, kit1_ok t4⟩
  have b2 := fun {fd : FuncData} (F : FunD K "_law_made_late" "_law_made_late" (defArgs (top 43)) (defBody (top 43)) (defScope (top 43)) [] [] (He.fAd K ("_law_made_late", none)) fd) => FunD.bindsN (ps := ["_law_k", "_law_worth_here"]) F fun _ _ _ _ _ _ us hl => match us, hl with | [_, _], _ => rfl
  have DL : DLate P w K mg base := ⟨RS, df_of F5 (He.glo_ok X G (fa 5 (u := .glo "_law_made_late") rfl)) (ok_late F5 RS) (b2 F5)⟩
  refine ok_law F0 ⟨DK, He.free_ok X G (fa 18 (u := .free "range") rfl), He.free_ok X G (fa 19 (u := .free "ValueError") rfl), He.glo_ok X G (fa 12 (u := .glo "WhosedayError") rfl), kit2_ok t5,
    df_of F1 (He.glo_ok X G (fa 1 (u := .glo "_law_pen") rfl)) (ok_pen F1 TP) (F1.bindsN fun _ _ _ _ _ _ us hl => match us, hl with | [_], _ => rfl),
    df_of F7 (He.glo_ok X G (fa 7 (u := .glo "_law_worth") rfl)) (ok_worth F7 Dworth) (F7.bindsN fun _ _ _ _ _ _ us hl => match us, hl with | [_, _], _ => rfl),
    df_of F4 (He.glo_ok X G (fa 4 (u := .glo "_law_made_early") rfl)) (ok_early F4 DL) (F4.bindsN fun _ _ _ _ _ _ us hl => match us, hl with | [_, _], _ => rfl),
    df_of F6 (He.glo_ok X G (fa 6 (u := .glo "_law_kinds") rfl)) (ok_kinds F6 DK) (F6.bindsN fun _ _ _ _ _ _ us hl => match us, hl with | [_], _ => rfl), ?_, He.eqO_ok n1, of_decide_eq_true n3⟩
  have ME := He.meth_ok (fa 22 (u := .meth "Entry" "__eq__") rfl)
  exact ⟨_, d12, ok_eq F12 TC, He.eqO_ok (He.ba (fa 22 (u := .meth "Entry" "__eq__") rfl)).1, ME.fn, F12.bindsN fun _ _ _ _ _ _ us hl => match us, hl with | [_, _], _ => rfl⟩
end
end Wd
open PySem PySem.W PySem.Calls PyProof.Rows
set_option maxHeartbeats 0 in
theorem PySem.Challenge.cw_whoseday_k00_errors_made_from_their_fiel_holds : PySem.Challenge.rw_whoseday_k00_errors_made_from_their_fiel.Holds := by
  w_on; o_law
  refine HandSHeadRun.head_any (r := Wd.R) (q := view Wd.R.prog [46]) (H := Wd.hk) (ob := Wd.ob) (M := 8000) (loose := Wd.names) (d := HandSHeadRun.topDef Wd.R.prog 46) (kwd := []) Wd.ob_eq
    (by kernel_rfl) (fun s => by kernel_rfl) Wd.run (by kernel_rfl) (by kernel_rfl) (by kernel_rfl) (by rfl) (by first | assumption | decide +kernel) (by decide +kernel) ⟨rfl, rfl, rfl, rfl, rfl, by decide +kernel⟩ ?hw ?hc
  case hw => w_witness2
  case hc =>
    refine L2.walk_ofE (l := PySem.Challenge.rw_whoseday_k00_errors_made_from_their_fiel) (n := 63) (k := 7) (x := "_law_script") (CX := L2.CX0) rfl (by decide) (by kernel_rfl) ⟨rfl, by decide, by decide⟩ ?F (fun _ _ _ _ z => z)
    intro w mg fa h Y G hmg0
    obtain ⟨K, KX, c⟩ := Y
    have hmg : mg ("law" : PySem.Str) = some (.ref fa) := by
      have e : (HandSHeadRun.topDef Wd.R.prog 46).name = ("law" : PySem.Str) := by kernel_rfl
      rw [← e]
      exact hmg0
    obtain ⟨fd, hb, hF⟩ := Wd.facts (P := (PySem.Challenge.rw_whoseday_k00_errors_made_from_their_fiel).prog) (w := w) KX G hmg c
    exact ⟨K, fd, Wd.spLaw K, KX, hb, fun H a ns hl _ hS => ⟨a, ns, rfl, hS, hl, fun _ => rfl⟩, hF⟩
