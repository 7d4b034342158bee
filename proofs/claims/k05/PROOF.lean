import PyProof.Rows.All
import Wide.All
import OpenK.AllK
import Wide.FinOn
import KE.KStateDown
import KE.KExcIs
import KE.KIsAll
import HandS.ForMost
import HandS.ForExc
import HandS.ExcInit
import HandS.ExcValue
import HandS.IsInst
import HandS.Wide
import HandS.Defaults
import HandS.Small
import HandS.Head0
import HandS.Head1
import HandS.Head2
import HandS.HeadEnd
import HandS.HeadHook1
import HandS.HeadHook2
import HandS.NoneIn
import HandS.Conv
import HandS.Star
import HandS.Walk
import HandS.TupAny
import HandS.Deep
import HandS.Style
import KE.GoesEnumKw
import HandS.SortKw
import HandS.TupLen
import KE.KDictList
import HandS.Records
import KE.KUnpack
import HandS.HeadHook3
import HandS.HeadHook4
import HandS.Exc
import Wide.Once
import HandS.TryMany
import HandS.TryOnly
import HandS.Lambda
import HandS.StrMore
import KE.IntTextLaws
import HandS.FStr
import HandS.MakeKwOnly
import HandS.DictComp
import KE.KDictDisplayH
import KE.GoesMore
import KE.GoesEnum
import HandS.OwnIter
import HandS.IterVal
import HandS.WordsExc
import HandS.ExcField
import HandS.NestedK
import HandS.HeadWalk
import PySem.Challenge.RW_whoseday_k05_clocks_and_days_are_shown
section
set_option Elab.async false
set_option linter.all false
set_option maxRecDepth 100000
set_option maxHeartbeats 4000000
/-! Errors as values: made, kept, read, asked for their class. -/
namespace Wd
open PySem PySem.Spec PyProof.Rows L2
section
variable {X : Cx} {x f : Str} {e : Expr} {es : List Expr} {te : TE} {ta : TA} {p pos : Pos}
/-- what is asked of a class of errors with an __init__ of its own, when one is made and kept -/
def tErr (C : Addr) (sp : Sp) (ta : TA) : TE := fun σ H Q =>
  ta σ H fun vs H1 => vs.length ≤ 1000 ∧
    ∀ a, H1 a = none → sp (.ref a :: vs) (upd H1 a (exo a C none)) (fun v H2 => v = .non ∧ Q (.ref a) H2) (fun _ _ _ => False)
theorem pe_err {CX : CXT} {C fI : Addr} {k : Nat} {fd : FuncData} {ps : List Str} {sp : Sp} (T : OexC X.K C)
    (iC : PySem.W.findIn X.K (.ref C) "__init__" = some (some (.ref fI)))
    (tI : PySem.W.typeIn X.K (.ref fI) = some (.type "function"))
    (G : FnOk X.prog X.w X.K X.mg X.base CX k fI fd ps sp) (hr : Room (k + 1) X.A) (hb : Binds X.K fd ps [])
    (hx : Passes CX X (fun _ _ _ => False)) (hg : Gl X x) (hm : X.mg x = some (.ref C)) (ha : PA X (e :: es) ta)
    (hdb : (x == ("__debug__" : Str)) = false := by decide)
    (he : starEach (e :: es) X.env = (false, eval e X.env) :: starEach es X.env := by rfl)
    (hpl : (backTo pos (starEach es X.env)).any (·.1) = false := by rfl) :
    PE X (.Call (.Name x p) (e :: es) [] pos) (tErr C sp ta) := by
  constructor
  intro pins s σ H Q I h
  obtain ⟨nm, q, N, bs, bm, sn, sub, ab, col, dd, k0, k1, k2, k3, k5, lC, tail⟩ := T.cls
  apply wpAny_Call_Name_kw
  apply ld_glob I hg hm _ hdb
  refine PySem.W.callWith_K (h₀ := X.base) I.ok.mod.kin T.kC
    (thn (ha.run pos pins s σ H _ I h) fun us s1 ⟨vs, H1, I1, rv, small, q1⟩ => ?_) he hpl
  refine ⟨I1.kIn, ?_⟩
  show wpAny _ _ (call (.ref C) us) _ _ _
  obtain ⟨hp, g, dr, tk, os⟩ := s1
  have up : hp.objs.size ≤ hp.objs.size + 1 := Nat.le_succ _
  have hn : H1 (hp.objs.size + 1) = none := I1.hok.fresh up
  have hq := q1 (hp.objs.size + 1) hn
  have there : ((hp.push (PySem.W.kdv_tup us)).push (PySem.HandSPX.excO C hp.objs.size)).get? (hp.objs.size + 1)
      = some (PySem.HandSPX.excO C hp.objs.size) := by heap_get
  have I2 := I1.laid (t' := tk) (a := hp.objs.size + 1) (o := exo (hp.objs.size + 1) C none)
    (h' := (hp.push (PySem.W.kdv_tup us)).push (PySem.HandSPX.excO C hp.objs.size))
    (fun b o z => Heap.get?_push_of_some _ (Heap.get?_push_of_some _ z)) up (exo_ok there)
  have r2 : Vals (V.ref (hp.objs.size + 1) :: vs) (Value.ref (hp.objs.size + 1) :: us) := .cons rfl rv
  have hl : (Value.ref (hp.objs.size + 1) :: us ++ []).length = ps.length := by
    rw [List.append_nil]
    have z := r2.length
    rw [G.len _ _ _ _ hq] at z
    exact z.symm
  have fits : us.length ≤ sizeLine := by
    rw [← Paired.length rv, sizeLine_eq]
    omega
  have bd := hb ⟨(hp.push (PySem.W.kdv_tup us)).push (PySem.HandSPX.excO C hp.objs.size), g, dr, tk, os⟩
    (Value.ref (hp.objs.size + 1) :: us) I2.kIn hl
  rw [List.append_nil] at bd
  apply wpAny_call
  refine PySem.HandSPX.call_own F.excBase_ValueError (fun Y => PySem.HandSPX.refsVE_contains Y bm tail)
    (I1.kIn _ _ lC) (PySem.W.looks_findIn I1.kIn iC) (fun self => PySem.W.bind_fn I1.kIn self tI) fits
    (codeAny_mono (G.run _ X.stack _ _ ⟨Value.ref (hp.objs.size + 1) :: us, []⟩ (Value.ref (hp.objs.size + 1) :: us)
      _ _ (fun _ _ _ => False) (hr.make C us []) (I2.env0.make C us []) bd r2 hq) ?_)
  intro r s' z
  cases r with
  | error er => exact hx pins σ _ _ er s' I2 z
  | ok fl =>
    cases fl with
    | next => exact False.elim z
    | brk => exact False.elim z
    | cont => exact False.elim z
    | ret u =>
      obtain ⟨v, H3, I3, rv3, ev, q3⟩ := I2.after z
      subst ev
      exact ⟨rv3, V.ref (hp.objs.size + 1), H3, I3, rfl, q3⟩
/-- an error of a class without an __init__ of its own -/
def tErr0 (C : Addr) : TE := fun _ H Q => ∀ a, H a = none → Q (.ref a) (upd H a (exo a C none))
theorem pe_err0 {C : Addr} (q : PySem.W.excIn X.K C He.veBase "ValueError.__new__" = true)
    (gC : X.mg x = some (.ref C)) (kC : PySem.W.keepIn X.K (.ref C) = true) (hg : Gl X x)
    (hdb : (x == ("__debug__" : Str)) = false := by decide) : PE X (.Call (.Name x p) [] [] pos) (tErr0 C) := by
  constructor
  intro pins s σ H Q I h
  apply wpAny_Call_Name_kw
  apply ld_glob I hg gC _ hdb
  refine PySem.W.callWith_K0 I.kIn kC ?_
  show wpAny _ _ (call (.ref C) []) _ _ _
  obtain ⟨bm, N, nm, qn, bs, hdct, sn, sub, ab, col, dd, k0, k1, k2, k3, k5, mN, hC, hN, hni, T⟩ := exc_obj I.kIn q
  refine wpAny_call_exc_subT F.excBase_ValueError T hC hN hni (fun h' a hm => ?_) (Nat.zero_le _)
  have hn : H a = none := I.hok.gone hm.new
  obtain ⟨t, ht, _, _⟩ := hm.there
  exact ⟨.ref a, _, I.laidN hm.keeps hm.new hn (exo_ok ht), rfl, h a hn⟩
/-- what the class at C says, so that its errors may be read and asked -/
structure ErrC (K : PySem.W.Frag) (C : Addr) : Prop where
  isC : (PySem.W.clsIn K C).isSome = true
  ga : PySem.W.findIn K (.ref C) "__getattribute__" = some (some (.builtin "BaseException.__getattribute__"))
  gg : PySem.W.findIn K (.ref C) "__getattr__" = some none
  be : PySem.W.subIn K (.ref C) (.type "BaseException") = some true
  hd : PySem.W.hasDictIn K C = true
  cc : PySem.W.findIn K (.ref C) "__class__" = some (some (.builtin "object.__class__"))
  cg : PySem.W.specialIn K (.builtin "object.__class__") "__get__" = some (some (.builtin "getset_descriptor.__get__"))
  ct : PySem.W.takesIn K (.builtin "object.__class__") = some true
  ob : PySem.W.mroIn K C (.type "object") = some true
/-- at a an error of the class at C, with a dict of these fields, or with none -/
def ErrAt (C a : Addr) (fs : List (Str × V)) (H : Hp) : Prop :=
  (H a = some (exo a C none) ∧ fs = []) ∨ ∃ d, H a = some (exo a C (some d)) ∧ H d = some (exd d fs)
theorem ErrAt.inst {C a : Addr} {fs : List (Str × V)} {pins : List (Addr × Obj)} {σ : L2.St} {H : Hp} {s : Shared} (I : L2.Inv X pins σ H s) (h : ErrAt C a fs H) :
    ∃ ox od, PySem.W.InstAt s.heap a ox C od ∧ ∀ v, fs.lookup f = some v → ∃ o u, od = some o ∧ PySem.W.lookIn f o = some (some u) ∧ RelV v u := by
  rcases h with ⟨ha, rfl⟩ | ⟨d, ha, hd⟩
  · obtain ⟨t1, ho⟩ := exo_at I.hok ha
    exact ⟨_, none, ⟨ho, rfl, rfl, True.intro⟩, fun v z => nomatch z⟩
  · obtain ⟨t1, ho⟩ := exo_at I.hok ha
    obtain ⟨mA, hns, rel⟩ := exd_at I.hok hd
    obtain ⟨od, hod, hl⟩ := lookIn_ns hns
    refine ⟨_, some od, ⟨ho, rfl, rfl, hod⟩, fun v z => ?_⟩
    have r := rel f
    rw [z] at r
    cases hm : mA f with
    | none =>
      rw [hm] at r
      exact r.elim
    | some u =>
      rw [hm] at r
      exact ⟨od, u, rfl, by rw [hl, hm], r⟩
/-- e.f of an error that is kept -/
def tErrF (K : PySem.W.Frag) (f : Str) (te : TE) : TE := fun σ H Q =>
  te σ H fun x H1 => ∃ a C fs v, x = .ref a ∧ ErrC K C ∧ PySem.W.findIn K (.ref C) f = some none ∧ ErrAt C a fs H1 ∧ fs.lookup f = some v ∧ Q v H1
theorem pe_errF (he : PE X e te) (hb : attributeBase e f X.env (eval e X.env) = eval e X.env := by rfl) :
    PE X (.Attribute e f pos) (tErrF X.K f te) := by
  constructor
  intro pins s σ H Q I h
  apply attr_of hb
  refine thn (he.run pins s σ H _ I h) fun w s1 ⟨y, H1, I1, ry, a, C, fs, v, ex, T, hno, at_, hv, q⟩ => ?_
  subst ex
  obtain rfl : w = Value.ref a := ry
  obtain ⟨ox, od, J, look⟩ := at_.inst (f := f) I1
  obtain ⟨o, u, rfl, lu, ru⟩ := look v hv
  exact PySem.HandSPX.exc_get I1.kIn J T.ga T.gg T.be (PySem.W.findObj_own T.hd hno rfl lu) (handed_of ru)
    ⟨v, H1, I1.tok _, ru, q⟩
/-- isinstance(e, c) of an error that is kept -/
def rErrIs (K : PySem.W.Frag) : List V → Hp → VK → Prop := fun xs H Q =>
  ∃ (a C : Addr) (fs : List (Str × V)) (c : V) (u : Value) (b : Bool), xs = [.ref a, c] ∧ ErrC K C ∧ ErrAt C a fs H ∧ ClsV c u ∧
    PySem.W.kitOne K (.ref C) u = some b ∧ Q (.bl b) H
theorem call_errIs : CallR X (.builtin "isinstance") (rErrIs X.K) := by
  intro pins s σ H xs us Q I r h
  obtain ⟨a, C, fs, c, u, b, rfl, T, at_, k, e, q⟩ := h
  obtain ⟨u1, u2, rfl, r1, r2⟩ := vals2 r
  obtain rfl : u1 = Value.ref a := r1
  obtain rfl := k.eq r2
  obtain ⟨ox, od, J, _⟩ := at_.inst (f := "x") I
  exact PySem.W.kia_one (PySem.W.kitx_exc T.isC T.ga T.gg T.be T.cc T.cg T.ct T.ob) I.kIn J e (fun z => nomatch z)
    fun tk => ⟨.bl b, H, I.tok tk, rfl, q⟩
end
end Wd
end
section
set_option Elab.async false
set_option linter.all false
set_option maxRecDepth 100000
set_option maxHeartbeats 4000000
namespace Wd
open PySem PySem.Spec PyProof.Rows L2
section
variable {X : Cx}
theorem bound_ne {M : Model} {A : Around} {E : Value → Shared → Prop} {s : Shared} {K : PySem.W.Frag} {a C : Addr} {ox : Obj} {od : Option Obj} {args : List Value} {Q : Option Value → Shared → Prop}
    (kin : K.In s.heap) (J : PySem.W.InstAt s.heap a ox C od)
    (hn : PySem.W.findIn K (.ref C) "__ne__" = some (some (.builtin "object.__ne__")))
    (h : wpAny M A (call (.builtin "object.__ne__") (.ref a :: args)) (fun v => Q (some v)) E s) :
    wpAny M A (callSpecialIfBound? (.ref a) "__ne__" args) Q E s := by
  have last : wpAny M A (call (.builtin "object.__ne__") ([.ref a] ++ args) >>= fun v => pure (some v)) Q E s :=
    wpAny_bind (wpAny_mono h (fun _ _ z => wpAny_pure z) fun _ _ z => z)
  unfold callSpecialIfBound? bindSpecialIfBound?
  refine wpAny_holding ?_
  refine wpAny_bind (wpAny_bind (wpAny_bind ?_))
  refine J.type.here ((PySem.W.looks_findIn kin hn).here ?_)
  refine wpAny_bind (wpAny_askSetting (wpAny_ite ?_))
  split
  · refine wpAny_bind (wpAny_of_eq (PySem.F.cmp_object.ne.bind _) ?_)
    exact wpAny_pure (by exact last)
  · refine wpAny_tryCatch (wpAny_bind (wpAny_of_eq (PySem.F.cmp_object.ne.bind _) ?_))
    exact wpAny_pure (by exact last)
/-- x != y of two instances of one class that has an == of its own -/
def rNeO (C : Addr) (sp : Sp) : R2 := fun x y H Q =>
  ∃ a b dx dy fs gs, x = .ref a ∧ y = .ref b ∧ H a = some (.ins C dx fs) ∧ H b = some (.ins C dy gs) ∧
    sp [.ref a, .ref b] H (fun v H' => ∃ t, v = .bl t ∧ Q (.bl (!t)) H') (fun _ _ _ => False)
theorem op_neO {CX : CXT} {C f : Addr} {k : Nat} {fd : FuncData} {ps : List Str} {sp : Sp}
    (G : FnOk X.prog X.w X.K X.mg X.base CX k f fd ps sp) (hr : Room (k + 2) X.A)
    (he : PySem.W.findIn X.K (.ref C) "__eq__" = some (some (.ref f)))
    (hn : PySem.W.findIn X.K (.ref C) "__ne__" = some (some (.builtin "object.__ne__")))
    (hm : PySem.W.mroIn X.K C (.type "object") = some true) (hf : PySem.W.isFn X.K (.ref f) = true)
    (hb : Binds X.K fd ps []) (hx : Passes CX X (fun _ _ _ => False)) : OpR X (compareOp .NotEq) (rNeO C sp) := by
  intro pins s σ H x y v u Q I rx ry h
  obtain ⟨a, b, dx, dy, fs, gs, rfl, rfl, ha, hb', q⟩ := h
  obtain rfl : v = Value.ref a := rx
  obtain rfl : u = Value.ref b := ry
  obtain ⟨mA, J, _⟩ := ins_get I.hok ha
  obtain ⟨mB, J', _⟩ := ins_get I.hok hb'
  obtain ⟨od, J, _⟩ := J.look
  obtain ⟨od', J', _⟩ := J'.look
  have env : Env0 X.prog X.w X.K X.mg X.base X.A.in1 X.stack s H := by
    have e := I.env0
    exact ⟨e.frames, e.mod, e.bs, e.bsz, e.funs, e.frf, e.hok, e.bare⟩
  have hl := G.len _ _ _ _ q
  have bd := hb s [.ref a, .ref b] I.kIn (by simpa using hl)
  rw [List.append_nil] at bd
  have inner : wpAny (model X.prog X.w) X.A.in1 (call (.ref f) [.ref a, .ref b])
      (fun r s' => ∃ t, r = .bool t ∧ EP X pins σ Q (.bool (!t)) s') X.xe s := by
    refine wpAny_call (codeAny_mono (G.run X.A.in1 X.stack s H ⟨[.ref a, .ref b], []⟩ [.ref a, .ref b] [.ref a, .ref b]
      _ _ (hr.mono (by omega) : Room (k + 1) X.A).in1 env bd (.cons rfl (.cons rfl .nil)) q) ?_)
    intro r s' z
    cases r with
    | error er => exact hx pins σ H s er s' I z
    | ok fl =>
      cases fl with
      | next => exact False.elim z
      | brk => exact False.elim z
      | cont => exact False.elim z
      | ret w =>
        obtain ⟨z1, H2, I2, r2, t, rfl, q2⟩ := I.after z
        obtain rfl : w = Value.bool t := r2
        exact ⟨t, rfl, .bl (!t), H2, I2, rfl, q2⟩
  have hu1 : X.A.in1.units < cLine := ((hr.mono (by omega) : Room 1 X.A).in1).units0
  have one : wpAny (model X.prog X.w) X.A (tryCompare (.ref a) "__ne__" (.ref b))
      (fun r s' => ∃ t, r = some (.bool t) ∧ EP X pins σ Q (.bool t) s') X.xe s := by
    unfold tryCompare
    refine wpAny_bind (bound_ne I.kIn J hn ?_)
    refine wpAny_call (codeAny_call_builtin PySem.F.cmp_object.ne.plain PySem.F.cmpEntry_ne ?_)
    refine PySem.W.check_slot PySem.F.cmpKind_ne PySem.F.cmpSplit_ne (J.type.andThen (PySem.W.looks_mroIn I.kIn hm)) (PySem.F.cmpArgs_ne _ _) ?_
    unfold Builtin.«object.__ne__»
    repeat (first
      | with_reducible refine wpAny_cRoomFor hu1 ?_
      | (refine wpAny_bind (m := callSpecialIfBound? (.ref a) (PySem.Str.ofString "__eq__") [.ref b])
          (PySem.W.ifBound_K I.kIn J he hf (wpAny_mono inner (fun r s' z => ?_) fun _ _ z => z))
         obtain ⟨t, rfl, z⟩ := z)
      | wp_step)
    exact ⟨!t, rfl, z⟩
  have same : PySem.W.notFirst X.K C (.ref C) = true := by simp [PySem.W.notFirst]
  show wpAny (model X.prog X.w) X.A (richCompare .NotEq (.ref a) (.ref b)) (EP X pins σ Q) X.xe s
  unfold richCompare
  simp only [oneThing_ref]
  refine wpAny_holding (wpAny_bind (wpAny_cRoomFor hr.units0 ?_))
  rw [cmpInfo_NotEq]
  dsimp only
  refine wpAny_bind (J.type.here (wpAny_bind (J'.type.here ?_)))
  rw [show (Value.ref C != Value.ref C) = false from by simp]
  simp only [Bool.false_eq_true, if_false]
  refine wpAny_bind (wpAny_pure ?_)
  simp only [Bool.false_eq_true, if_false]
  refine wpAny_bind (wpAny_mono one (fun r s' z => ?_) fun _ _ z => z)
  obtain ⟨t, rfl, z⟩ := z
  first | exact wpAny_pure z | exact wpAny_pure (wpAny_pure z)
end
end Wd
end
section
set_option Elab.async false
set_option linter.all false
set_option maxRecDepth 100000
set_option maxHeartbeats 4000000
/-! Dicts whose keys are tuples in which None may stand. -/
namespace Wd
open PySem PySem.Spec PyProof.Rows L2
abbrev OKey := Option Key
def oKV : OKey → V
  | none => .non
  | some k => kV k
theorem oKV_is {P : Program} {w : World} {k : OKey} {u : Value} (r : RelV (oKV k) u) : (noneKind P w).is k u = true := by
  cases k with
  | none =>
    obtain rfl : u = Value.none := r
    rfl
  | some k => exact kV_is (P := P) (w := w) r
theorem oItems {P : Program} {w : World} : ∀ {ks : List OKey} {us : List Value}, Vals (ks.map oKV) us → ItemsAre (noneKind P w) ks us
  | [], _, r => by rw [List.map_nil] at r; cases r; exact .nil
  | k :: ks, _, r => by
    rw [List.map_cons] at r
    cases r with
    | cons h t => exact .cons (oKV_is h) (oItems t)
abbrev ORow := List OKey × Addr × V
/-- what the object at a is: a dict of these keys, key tuples and values -/
def odP (P : Program) (w : World) (a : Addr) (kvs : List ORow) : Heap → Prop := fun h =>
  (a == sysModules) = false ∧ kvs.length ≤ sizeLine ∧ ∃ xs : List (List OKey × Addr × Value), Paired (fun (p : ORow) q => p.1 = q.1 ∧ p.2.1 = q.2.1 ∧ RelV p.2.2 q.2.2) kvs xs ∧
    ∃ o es ep, h.get? a = some o ∧ o.ExactDict ∧ o.data = .dict es ep ∧ es.toList = xs.map (entryOfKey (tupleKind (noneKind P w))) ∧ (xs.map (·.1)).Nodup
def odO (P : Program) (w : World) (a : Addr) (kvs : List ORow) : HO := .ext (odP P w a kvs)
/-- a dict of this kind at a -/
structure OD (P : Program) (w : World) (H : Hp) (a : Addr) (kvs : List ORow) : Prop where
  at_ : H a = some (odO P w a kvs)
  keys : ∀ x ∈ kvs, H x.2.1 = some (.tup (x.1.map oKV))
def oVal (kvs : List ORow) (k : List OKey) : Option V := (kvs.find? fun x => decide (x.1 = k)).map (·.2.2)
theorem od_ok {P : Program} {w : World} {H : Hp} {h : Heap} {a : Addr} {kvs : List ORow} (p : odP P w a kvs h) : ObjOk P w H h a (odO P w a kvs) := by
  refine ⟨p, ?_, fun h1 h2 q st => ?_⟩
  · obtain ⟨_, _, xs, _, o, es, ep, ho, _⟩ := p
    exact ⟨o, ho⟩
  · obtain ⟨a1, a2, xs, r, o, es, ep, ho, q⟩ := q
    exact ⟨a1, a2, xs, r, o, es, ep, st _ ho, q⟩
theorem oVal_rel {kvs : List ORow} {xs : List (List OKey × Addr × Value)} (r : Paired (fun (p : ORow) q => p.1 = q.1 ∧ p.2.1 = q.2.1 ∧ RelV p.2.2 q.2.2) kvs xs) (k : List OKey) :
    RelO (oVal kvs k) ((atKey xs k).map (·.2)) := by
  induction r with
  | nil => exact True.intro
  | @cons p q ps qs h t ih =>
    obtain ⟨h1, _, h2⟩ := h
    by_cases e : p.1 = k
    · have e' : q.1 = k := h1.symm.trans e
      have a : oVal (p :: ps) k = some p.2.2 := by simp [oVal, List.find?_cons, e]
      have b : atKey (q :: qs) k = some q.2 := by simp [atKey, List.find?_cons, e']
      rw [a, b]
      exact h2
    · have e' : ¬ q.1 = k := fun z => e (h1.trans z)
      have a : oVal (p :: ps) k = oVal ps k := by simp [oVal, List.find?_cons, e]
      have b : atKey (q :: qs) k = atKey qs k := by simp [atKey, List.find?_cons, e']
      rw [a, b]
      exact ih
section
variable {P : Program} {w : World} {H : Hp} {h : Heap} {a b : Addr} {kvs : List ORow} {ks : List OKey}
theorem oKey_of (ok : HOk P w H h) (e : H b = some (.tup (ks.map oKV))) : (tupleKind (noneKind P w)).is h ks b := by
  obtain ⟨_, its, r, o, h1, h2, n, h3⟩ := (show ObjOk P w H h b (.tup (ks.map oKV)) from ok b _ e)
  exact ⟨o, its.toArray, n, h1, h2, h3, by simpa using oItems r⟩
theorem OD.of (ok : HOk P w H h) (d : OD P w H a kvs) : (a == sysModules) = false ∧ kvs.length ≤ sizeLine ∧ ∃ xs : List (List OKey × Addr × Value), Paired (fun (p : ORow) q => p.1 = q.1 ∧ p.2.1 = q.2.1 ∧ RelV p.2.2 q.2.2) kvs xs ∧
    h.DictOfH (tupleKind (noneKind P w)) a xs := by
  obtain ⟨⟨hs, hz, xs, r, o, es, ep, ho, hx, hd, he, hn⟩, _, _⟩ := (show ObjOk P w H h a (odO P w a kvs) from ok a _ d.at_)
  refine ⟨hs, hz, xs, r, o, es, ep, ho, hx, hd, he, fun x hm => ?_, hn⟩
  have all : ∀ {l : List ORow} {m : List (List OKey × Addr × Value)}, Paired (fun (p : ORow) q => p.1 = q.1 ∧ p.2.1 = q.2.1 ∧ RelV p.2.2 q.2.2) l m → (∀ x ∈ l, H x.2.1 = some (.tup (x.1.map oKV))) → ∀ x ∈ m, (tupleKind (noneKind P w)).is h x.1 x.2.1 := by
    intro l m q
    induction q with
    | nil => intro _ x hx; exact nomatch hx
    | @cons p q ps qs hq t ih =>
      intro hk x hx
      rcases List.mem_cons.mp hx with e | hx
      · subst e
        have := hk p List.mem_cons_self
        rw [hq.1, hq.2.1] at this
        exact oKey_of ok this
      · exact ih (fun y hy => hk y (List.mem_cons_of_mem _ hy)) x hx
  exact all r d.keys x hm
end
section
variable {X : Cx} {o i e value : Expr} {td ty tv : TE} {pos pos' : Pos}
/-- {}, to be such a dict -/
theorem pe_dnewO : PE X (.Dict [] [] pos) (fun _ H Q => ∀ p, H p = none → Q (.ref p) (upd H p (odO X.prog X.w p []))) := ⟨fun pins s σ H Q I h =>
  wpAny_Dict_empty ⟨.ref s.heap.objs.size, _, I.laid (a := s.heap.objs.size) (o := odO X.prog X.w s.heap.objs.size []) (t' := s.toks) (fun _ _ q => Heap.get?_push_of_some _ q) (Nat.le_refl _)
    (od_ok ⟨beq_eq_false_iff_ne.mpr (Ne.symm (Nat.ne_of_lt I.big)), Nat.zero_le _, [], .nil, _, #[], 0, Heap.get?_push_size _ rfl, ⟨rfl, rfl, rfl⟩, rfl, rfl, List.nodup_nil⟩), rfl, h _ (I.hok.fresh (Nat.le_refl _))⟩⟩
/-- y not in d -/
def tONotIn (P : Program) (w : World) (ty td : TE) : TE := fun σ H Q => ty σ H fun y H1 => td σ H1 fun x H2 => ∃ a b kvs k, x = .ref a ∧ y = .ref b ∧ OD P w H2 a kvs ∧ H2 b = some (.tup (k.map oKV)) ∧ Q (.bl (!(oVal kvs k).isSome)) H2
theorem pc_onotin (hu : X.A.units + 1 < cLine) (hi : PE X i ty) (ho : PE X o td) : PC X .NotIn i o (tONotIn X.prog X.w ty td) := by
  refine ⟨fun pins s σ H Q I h => ?_⟩
  refine thn (hi.run pins s σ H _ I h) fun iv s1 ⟨y, H1, I1, ry, q1⟩ => thn (ho.run pins s1 σ H1 _ I1 q1) fun u s2 ⟨x, H2, I2, rx, a, b, kvs, k, ex, ey, d, hb, q2⟩ => ?_
  subst ex ey
  obtain rfl : u = Value.ref a := rx
  obtain rfl : iv = Value.ref b := ry
  obtain ⟨hs, hz, xs, rel, dd⟩ := d.of I2.hok
  refine wpAny_notIn_heap (tupleKind_room_in1 hu) (oKey_of I2.hok hb) hs dd ?_
  have q := (oVal_rel rel k).isSome_eq
  rw [Option.isSome_map] at q
  rw [← q]
  exact ⟨.bl _, H2, I2.tok _, rfl, q2⟩
/-- d[y] -/
def tOGet (P : Program) (w : World) (td ty : TE) : TE := fun σ H Q => td σ H fun x H1 => ty σ H1 fun y H2 => ∃ a b kvs k v, x = .ref a ∧ y = .ref b ∧ OD P w H2 a kvs ∧ H2 b = some (.tup (k.map oKV)) ∧ oVal kvs k = some v ∧ Q v H2
theorem pe_oget (hu : X.A.units + 1 < cLine) (ho : PE X o td) (hi : PE X i ty) (hs : NoSl i) : PE X (.Subscript o i pos) (tOGet X.prog X.w td ty) := by
  refine ⟨fun pins s σ H Q I h => ?_⟩
  refine subD_of PySem.F.slot_dict_getitem.lookup hs (thn (ho.run pins s σ H _ I h) fun u s1 ⟨x, H1, I1, rx, q1⟩ => thn (hi.run pins s1 σ H1 _ I1 q1) fun iv s2 ⟨y, H2, I2, ry, a, b, kvs, k, v, ex, ey, d, hb, hv, q2⟩ => ?_)
  subst ex ey
  obtain rfl : u = Value.ref a := rx
  obtain rfl : iv = Value.ref b := ry
  obtain ⟨hs, hz, xs, rel, dd⟩ := d.of I2.hok
  obtain ⟨w', hw, rw'⟩ := RelO.some_of (v := v) (o := (atKey xs k).map (·.2)) (by rw [← hv]; exact oVal_rel rel k)
  obtain ⟨p, hp, hp2⟩ := Option.map_eq_some_iff.mp hw
  refine ⟨dd.typeIs, wpAny_getItem_heap (tupleKind_room_in1 hu) (oKey_of I2.hok hb) dd hp ?_⟩
  rw [hp2]
  exact ⟨v, H2, I2.tok _, rw', q2⟩
/-- d[y] = v, y new -/
def sOPut (P : Program) (w : World) (td ty tv : TE) : TS := fun D σ H => tv σ H fun v H1 => td σ H1 fun x H2 => ty σ H2 fun y H3 => ∃ a b kvs k, x = .ref a ∧ y = .ref b ∧ OD P w H3 a kvs ∧ H3 b = some (.tup (k.map oKV)) ∧ oVal kvs k = none ∧ kvs.length < sizeLine ∧
  D.nx σ (upd H3 a (odO P w a (kvs ++ [(k, b, v)])))
theorem ps_oput (hu : X.A.units + 1 < cLine) (ho : PE X o td) (hi : PE X i ty) (hv : PE X value tv) (hs : swapsWith value (some (.Subscript o i pos')) pos.line X.env = pure false) :
    PS X (.Assign [.Subscript o i pos'] value pos) (sOPut X.prog X.w td ty tv) := by
  refine ⟨fun pins s σ H D I h => ?_⟩
  refine wpAny_Assign_Subscript (thn (hv.run pins s σ H _ I h) fun r s1 ⟨v, H1, I1, rv, q1⟩ => thn (ho.run pins s1 σ H1 _ I1 q1) fun u s2 ⟨x, H2, I2, rx, q2⟩ => thn (hi.run pins s2 σ H2 _ I2 q2) fun iv s3 ⟨y, H3, I3, ry, a, b, kvs, k, ex, ey, d, hb, hn, hz, q3⟩ => ?_) hs
  subst ex ey
  obtain rfl : u = Value.ref a := rx
  obtain rfl : iv = Value.ref b := ry
  obtain ⟨hs, hz', xs, rel, dd⟩ := d.of I3.hok
  have hl : kvs.length = xs.length := Paired.length rel
  have hnone : atKey xs k = none := by
    have q := (oVal_rel rel k).isSome_eq
    rw [hn, Option.isSome_map] at q
    cases e : atKey xs k with
    | none => rfl
    | some _ => rw [e] at q; cases q
  refine wpAny_setItem_heap (hsz := by omega) (tupleKind_room_in1 hu) (oKey_of I3.hok hb) dd fun h' dd' hs' => ?_
  refine ⟨σ, _, d_write (t' := _) I3 (by rw [d.at_]; exact True.intro) hs' ?_ (od_ok ?_), q3⟩
  · obtain ⟨o, _, _, ho, _⟩ := dd'
    exact ⟨o, ho⟩
  · obtain ⟨o, es, ep, ho, h2, h3, h4, _, h5⟩ := dd'
    rw [storedH_new hnone] at h4 h5
    exact ⟨hs, by rw [List.length_append]; show kvs.length + 1 ≤ _; omega, _, Paired.snoc rel ⟨rfl, rfl, rv⟩, o, es, ep, ho, h2, h3, h4, h5⟩
end
/-- all but what .ext tells stays -/
def SaX (H H' : Hp) : Prop := ∀ b o, H b = some o → (∀ φ, o ≠ .ext φ) → H' b = some o
theorem SaX.refl {H : Hp} : SaX H H := fun _ _ h _ => h
theorem SaX.trans {H H1 H2 : Hp} (x : SaX H H1) (y : SaX H1 H2) : SaX H H2 := fun b o h n => y b o (x b o h n) n
theorem SaX.of {H H' : Hp} (x : Same H H') : SaX H H' := fun b o h _ => x b o h
theorem SaX.upd {H : Hp} {a : Addr} {φ φ' : Heap → Prop} (h : H a = some (.ext φ)) : SaX H (upd H a (.ext φ')) := fun b o z n => by
  rw [upd_ne (fun e => n φ (by rw [e, h] at z; exact (Option.some.inj z).symm))]
  exact z
end Wd
end
section
set_option Elab.async false
set_option linter.all false
set_option maxRecDepth 100000
set_option maxHeartbeats 1000000
/-! enumerate(list, start=1). -/
namespace Wd
open PySem PySem.Spec PyProof.Rows L2
theorem callWith_typeKw {M : Model} {A : Around} {E : Value → Shared → Prop} {s : Shared} {env : Env} {pos : Pos} {T : String} {e : Expr} {rest : List Expr} {kws : List Keyword} {Q : Value → Shared → Prop}
    (h : wpAny M A (spliced (backTo pos (starEach (e :: rest) env))) (fun vs s₁ => wpAny M A (evalAll ((backToKw pos (keywordEach kws env)).map (·.2)))
      (fun kvs s₂ => wpAny M A (call (.type T) vs (((backToKw pos (keywordEach kws env)).filterMap (·.1)).zip kvs)) Q E s₂) E s₁) E s)
    (he : backTo pos (starEach (e :: rest) env) = (false, eval e env) :: backTo pos (starEach rest env))
    (hplain : (backTo pos (starEach (e :: rest) env)).any (·.1) = false)
    (hall : (backToKw pos (keywordEach kws env)).all (·.1.isSome) = true)
    (hkw : (backToKw pos (keywordEach kws env)).any (·.1.isNone) = false) :
    wpAny M A (callWith pos (.type T) [] (backTo pos (starEach (e :: rest) env)) (backToKw pos (keywordEach kws env))) Q E s := by
  have h2 : wpAny M A (evalArgs (.type T) true (backTo pos (starEach (e :: rest) env)) (backToKw pos (keywordEach kws env))) (fun a s₁ => wpAny M A (call (.type T) ([] ++ a.pos) a.kw) Q E s₁) E s := by
    rw [he] at h ⊢
    exact PyProof.Rows.evalArgs_kwB hall h
  unfold callWith
  refine wpAny_bind (wpAny_holding (wpAny_mono h2 (fun a s₁ h₁ => wpAny_bind (wpAny_standAt ?_)) fun _ _ x => x))
  simp only [hplain, hkw, Bool.or_false]
  refine wpAny_bind (wpAny_pure ?_)
  exact wpAny_bind (wpAny_mono h₁ (fun r s₂ hr => wpAny_bind (wpAny_holding (wpAny_point (wpAny_pure hr)))) fun _ _ x => x)
/-- the list at a as it stands at each turn, each item in a new pair, the numbers from 1 on -/
def Ite1 (K : PySem.W.Frag) (a : Addr) : It :=
  ⟨fun i H => ∃ (xs : List V) (x : V), SqL K H a xs ∧ xs[i]? = some x, fun i H v H' => ∃ T x, v = .ref T ∧ H T = none ∧ H' = upd H T (.tup [.int (1 + (i : Int)), x]) ∧ ∀ xs, SqL K H a xs → xs[i]? = some x, fun i H => ∃ xs : List V, SqL K H a xs ∧ xs.length ≤ i⟩
theorem enum_end1 {prog : Program} {w : World} {A : Around} {E : Value → Shared → Prop} {s : Shared} {e it l : Addr} {i : Nat} {c : Int} {items : Array Value} {old : Value} {Q : Option Value → Shared → Prop} (hh : A.handled = none)
    (he : IsEnum s.heap e it c old) (hit : s.heap.IsListIter it l i) (hl : s.heap.IsList l items) (hx : items[i]? = none)
    (hQ : ∀ h', Heap.ExtBut it s.heap h' → Q none { s with heap := h' }) : wpAny (model prog w) A (pyNext (.ref e)) Q E s := by
  have hT : s.TypeIs (.ref e) "enumerate" := ⟨_, he, rfl⟩
  unfold pyNext
  refine wpAny_bind (wpAny_attempt (wpAny_callSpecial?_slot (name := Str.ofString "__next__") hT F.slot_enumerate_next
    (wpAny_call_entry F.slot_enumerate_next hT F.entry_enumerate_next ?_ (F.args_enumerate_next_1 _))))
  show wpAny _ _ (field (.ref e) 2 >>= _) _ _ _
  refine wpAny_bind (wpAny_field he rfl (x := .ref it) rfl ?_)
  refine wpAny_bind (wpAny_nextOf_list_end hh hit hl hx fun h' x he' hx' => ?_)
  obtain ⟨o, ho, hc⟩ := hx'
  refine wpAny_bind (wpAny_isInstance (T := "StopIteration") (b := true) ⟨o, ho, hc⟩ isSubtype_stop ?_)
  exact wpAny_pure (hQ _ he')
theorem turn_enum1 {P : Program} {w : World} {K : PySem.W.Frag} {elts : List Expr} {kk : Nat} {tpos : Pos} (a e it : Addr) :
    Turn P w K (.Tuple elts kk tpos) (Ite1 K a) [e, it] e (fun i h => (∃ old, IsEnum h e it (1 + (i : Int)) old) ∧ h.IsListIter it a i ∧ e ≠ it) where
  mem := by simp
  obj := fun i h st b hb => by
    obtain ⟨⟨old, he⟩, ⟨o, ho, hc, hd⟩, _⟩ := st
    have e' : b = e ∨ b = it := by simpa using hb
    rcases e' with z | z
    · rw [z]; exact ⟨_, he, fun v q => nomatch q⟩
    · rw [z]; exact ⟨o, ho, fun v q => by rw [hd] at q; cases q⟩
  keep := fun i h h' st k => let ⟨⟨old, he⟩, hi, hne⟩ := st; ⟨⟨old, k e (by simp) _ he⟩, hi.at fun o q => k it (by simp) o q, hne⟩
  item := by
    intro X hP hw hK hc i pins s σ H E I hf st hg
    subst hP hw hK
    obtain ⟨⟨old, he⟩, hit, hne⟩ := st
    obtain ⟨xs, x, hq, hx⟩ := hg
    obtain ⟨its, rv, p, hz⟩ := I.list hq
    obtain ⟨u, hu, ru⟩ := rv.get hx
    have hel : e < s.heap.objs.size := Heap.lt_size he
    have hil : it < s.heap.objs.size := by obtain ⟨_, q, _⟩ := hit; exact Heap.lt_size q
    have hal : a ≠ it := by
      rintro rfl
      obtain ⟨o, q, qc, qd⟩ := hit
      obtain ⟨o2, m, q2, c2, d2, _⟩ := p
      rw [q] at q2
      obtain rfl := Option.some.inj q2
      exact absurd (Value.type.inj (qc.symm.trans c2)) (by decide)
    have hae : e ≠ a := by
      rintro rfl
      obtain ⟨o2, q2, c2, m, d2⟩ := p.isList
      rw [show s.heap.get? e = _ from he] at q2
      obtain rfl := Option.some.inj q2
      cases d2
    have hlt : i < its.toArray.size := by
      have := (List.getElem?_eq_some_iff.mp hu).1
      simpa using this
    refine wpAny_pyNext_enum_itemC (Draws.list (A := X.A.in1) (I.ok.hd hc) it a hal its.toArray) he ⟨hit, p.isList⟩ hlt hne (by simp [hne, hae]) fun y h' tk hy ho hst hT hsz hk => ?_
    obtain ⟨hit', _⟩ := hst
    obtain rfl : u = y := by
      have h1 : its[i]? = some y := by simpa using hy
      rw [hu] at h1
      exact Option.some.inj h1
    refine ⟨_, rfl, wpAny_letOwnedTupleGo_enum (s := { s with heap := h', toks := tk + 1 }) ho fun h'' he' sb => ?_⟩
    have hT2 : h''.get? s.heap.objs.size = some { cls := .type "tuple", data := .seq #[.int (1 + (i : Int)) tk, u] } := (sb.2 _ (Nat.ne_of_gt hel)).trans hT
    have new : ObjOk X.prog X.w (upd H s.heap.objs.size (.tup [.int (1 + (i : Int)), x])) h'' s.heap.objs.size (.tup [.int (1 + (i : Int)), x]) :=
      ⟨by show 2 ≤ sizeLine; decide, [.int (1 + (i : Int)) tk, u], .cons ⟨_, rfl⟩ (.cons ru .nil), ⟨_, hT2, rfl, _, rfl⟩⟩
    have I1 : Inv X pins σ (upd H s.heap.objs.size (.tup [.int (1 + (i : Int)), x])) { s with heap := h'', toks := tk + 1 } :=
      I.turnedNew (ch := [e, it]) (fun b ob hb q => (sb.2 b (fun z => hb (by simp [z]))).trans (hk b ob (fun z => hb (by simp [z])) (fun z => hb (by simp [z])) q)) hf (Nat.le_refl _) new
    refine ⟨.ref s.heap.objs.size, _, I1, rfl, ⟨_, x, rfl, I.hok.fresh (Nat.le_refl _), rfl, fun ys hy => by rw [I.list_inj hy hq]; exact hx⟩, ⟨⟨u, ?_⟩, hit'.at fun o q => (sb.2 it (Ne.symm hne)).trans q, hne⟩, fun b hb => ?_⟩
    · have e1 : 1 + ((i + 1 : Nat) : Int) = 1 + (i : Int) + 1 := by omega
      rw [e1]; exact he'
    · have hb' : b < s.heap.objs.size := by
        have e' : b = e ∨ b = it := by simpa using hb
        rcases e' with z | z
        · rw [z]; exact hel
        · rw [z]; exact hil
      rw [upd_ne (Nat.ne_of_lt hb')]
      exact (hf b hb).1
  done := by
    intro X hP hw hK hc i pins s σ H E I hf st hg
    subst hP hw hK
    obtain ⟨⟨old, he⟩, hit, hne⟩ := st
    obtain ⟨xs, hq, hx⟩ := hg
    obtain ⟨its, rv, p, hz⟩ := I.list hq
    obtain ⟨f0, f1, f2, f3, f4, f5⟩ := hf it (by simp)
    have hl := rv.length
    exact enum_end1 (I.ok.hd hc) he hit p.isList (by simp; omega) fun h' eb => ⟨rfl, I.turned (t' := s.toks) (fun b o hb q => eb b o hb q) f0 f1 f3 f4 f5⟩
  self := fun A i s Q E st h => let ⟨⟨_, he⟩, _⟩ := st; wpAny_pyIter_enum he h
def iEnum1 (K : PySem.W.Frag) (ta : TA) : TI := fun σ H R => ta σ H fun vs H1 => ∃ a xs, vs = [.ref a] ∧ SqL K H1 a xs ∧ R (Ite1 K a) H1
theorem pi_enum1 {X : Cx} {e : Expr} {ta : TA} {p pos tpos p2 kp : Pos} {elts : List Expr} {kk j : Nat} (hg : Gl X "enumerate") (hm : X.mg "enumerate" = none) (ha : PA X [e] ta)
    (he : backTo pos (starEach [e] X.env) = (false, eval e X.env) :: backTo pos (starEach [] X.env) := by rfl) (hpl : (backTo pos (starEach [e] X.env)).any (·.1) = false := by rfl)
    (hall : (backToKw pos (keywordEach [⟨some "start", .Constant (.int 1) j p2, kp⟩] X.env)).all (·.1.isSome) = true := by rfl) (hnone : (backToKw pos (keywordEach [⟨some "start", .Constant (.int 1) j p2, kp⟩] X.env)).any (·.1.isNone) = false := by rfl)
    (hks : (backToKw pos (keywordEach [⟨some "start", .Constant (.int 1) j p2, kp⟩] X.env)).filterMap (·.1) = (["start"] : List Str) := by rfl) :
    PI X (.Tuple elts kk tpos) (.Call (.Name "enumerate" p) [e] [⟨some "start", .Constant (.int 1) j p2, kp⟩] pos) (iEnum1 X.K ta) := by
  have hk : PK X [⟨some "start", .Constant (.int 1) j p2, kp⟩] (L2.tCons (L2.tC (.int 1)) L2.tNil) := pk_cons pe_int pk_nil
  refine ⟨fun pins s σ H R I h => ?_⟩
  refine wpAny_Call_Name_kw (ld_blt I hg hm boot_enumerate ?_)
  refine callWith_typeKw (thn (ha.run pos pins s σ H _ I h) fun us s1 ⟨vs, H1, I1, r1, q1⟩ => thn (hk.run pos pins s1 σ H1 (fun zs H2 => zs = [.int 1] ∧ H2 = H1) I1 ⟨rfl, rfl⟩) fun ws s2 ⟨zs, H2, I2, r2, q2⟩ => ?_) he hpl hall hnone
  rw [hks]
  obtain ⟨ez, eH⟩ := q2
  subst ez eH
  obtain ⟨a, xs, ex, hq, q⟩ := q1
  subst ex
  cases r1 with
  | cons r rr =>
    cases rr
    cases r
    cases r2 with
    | cons r2 rr2 =>
      cases rr2
      obtain ⟨t, rfl⟩ := r2
      obtain ⟨its, rv, p', hz⟩ := I2.list hq
      show wpAny _ _ (call (.type "enumerate") [.ref a] [(Str.ofString "start", .int 1 t)]) _ _ _
      refine enum_begins_start (begins_list a its.toArray) p'.isList (by decide) (by decide) fun h' he hit hsz hk => wpAny_pyIter_enum he ?_
      have I3 : Inv X pins σ _ { s2 with heap := h' } := I2.kept (t' := s2.toks) hk
      refine ⟨s2.heap.objs.size + 1, [s2.heap.objs.size + 1, s2.heap.objs.size], _, _, _, rfl, I3, turn_enum1 a (s2.heap.objs.size + 1) s2.heap.objs.size, ⟨⟨.none, he⟩, ⟨_, hit, rfl, rfl⟩, Nat.succ_ne_self _⟩, fun b hb => ?_, q⟩
      have e' : b = s2.heap.objs.size + 1 ∨ b = s2.heap.objs.size := by simpa using hb
      have hle : s2.heap.objs.size ≤ b := by
        rcases e' with z | z
        · rw [z]; exact Nat.le_add_right _ _
        · rw [z]; exact Nat.le_refl _
      exact I2.fpOk hle (I2.hok.fresh hle)
end Wd
end
section
set_option Elab.async false
set_option linter.all false
set_option maxRecDepth 100000
set_option maxHeartbeats 1000000
/-! tuple(d) of a dict. -/
namespace Wd
open PySem PySem.Spec PyProof.Rows L2
section
variable {prog : Program} {w : World} {A : Around} {E : Value → Shared → Prop} {s : Shared} {r d : Addr} {n : Nat} {P : Nat → Value → Prop} {OK : Heap → Prop}
theorem collect_kdl {T : String} {Q : List Value → Shared → Prop} (K : PySem.W.KdlSrc prog w T r d n P OK) (hh : A.handled = none) (hok : OK s.heap) (hn : n ≤ sizeLine)
    (hQ : ∀ (h' : Heap) (tk : Nat) (acc : Array Value), (∀ b o, s.heap.get? b = some o → h'.get? b = some o) → ItemsOf P acc n → Q acc.toList { s with heap := h', toks := tk }) :
    wpAny (model prog w) A (collect (.ref r)) Q E s := by
  unfold collect
  refine wpAny_bind (wpAny_runValue (codeAny_builtin F.entry_proto_collect ?_))
  rw [Around.under_plainId F.plain_proto_collect _]
  show wpAny _ A.in1 (newList [] >>= fun l => again (.builtin "list.__iadd__" ⟨[l, .ref r], []⟩)) _ _ s
  refine wpAny_bind (wpAny_newObj_type ?_)
  refine wpAny_pure ⟨plainId_quiet F.plain_list_iadd _, codeAny_builtin F.entry_list_iadd ?_⟩
  rw [Around.under_plainId F.plain_list_iadd _]
  show wpAny _ A.in1 (Builtin.List.listExtendWith (.ref s.heap.objs.size) (.ref r) (.ref s.heap.objs.size)) _ _ _
  have hS : (s.heap.push { cls := .type "list", data := .seq ([] : List Value).toArray }).get? s.heap.objs.size = some { cls := .type "list", data := .seq #[] 0 } := Heap.get?_push_size _ rfl
  have lt := K.there _ hok
  refine wpAny_mono (PySem.W.kdl_extend (A := A) (R := fun rr s' => rr = .ok (.ret (.ref s.heap.objs.size)) ∧ ∃ (h' : Heap) (tk : Nat) (acc : Array Value) (c' : Nat), s' = { s with heap := h', toks := tk } ∧
      (∀ b o, s.heap.get? b = some o → h'.get? b = some o) ∧ h'.get? s.heap.objs.size = some { cls := .type "list", dict := none, data := .seq acc c', slots := #[] } ∧ ItemsOf P acc n)
    (s := { s with heap := s.heap.push { cls := .type "list", data := .seq ([] : List Value).toArray } }) K hh (K.keep _ _ hok fun b _ o q => Heap.get?_push_of_some _ q) _ (Nat.ne_of_gt lt.1) (Nat.ne_of_gt lt.2) _ 0 hS
    (fun h' tk acc c' hk e hi => ⟨rfl, h', tk, acc, c', rfl, fun b o q => hk b o (Nat.ne_of_lt (Heap.lt_size q)) (Heap.get?_push_of_some _ q), e, hi⟩) hn) (fun fin s' h => ?_) (fun e s' h => ?_)
  · cases fin with
    | done f =>
      obtain ⟨e, h', tk, acc, c', rfl, hk, hS', hi⟩ := h
      cases e
      show wpAny _ A (load s.heap.objs.size >>= _) _ _ _
      exact wpAny_bind (wpAny_load hS' (wpAny_pure (hQ h' tk acc hk hi)))
    | again c' =>
      refine ⟨h.1, codeAny_mono h.2 fun rr s'' hr' => ?_⟩
      obtain ⟨rfl, h', tk, acc, c', rfl, hk, hS', hi⟩ := hr'
      show wpAny _ A (load s.heap.objs.size >>= _) _ _ _
      exact wpAny_bind (wpAny_load hS' (wpAny_pure (hQ h' tk acc hk hi)))
  · exact absurd h.1 (by simp)
theorem code_tuple_new_kdl {Q₁ : Value → Shared → Prop} (K : PySem.W.KdlSrc prog w "dict" r d n P OK) (hh : A.handled = none) (hok : OK s.heap) (hn : n ≤ sizeLine)
    (h : ∀ (h' : Heap) (tk : Nat) (acc : Array Value), (∀ b o, s.heap.get? b = some o → h'.get? b = some o) → ItemsOf P acc n →
      Q₁ (.ref h'.objs.size) { s with heap := h'.push { cls := .type "tuple", data := .seq acc }, toks := tk }) :
    codeAny (model prog w) A (.call (.builtin "tuple.__new__") ⟨[.type "tuple", .ref r], []⟩) (wants Q₁ E) s := by
  refine codeAny_of_tree ?_
  show wpAny _ A.in1 (do checkBuiltinCall "tuple.__new__" ⟨[.type "tuple", .ref r], []⟩; again (.builtin "tuple.__new__" ⟨[.type "tuple", .ref r], []⟩)) _ _ s
  refine wpAny_bind (wpAny_of_eq (F.newCall_tuple_1 _) (wpAny_pure ⟨plainId_quiet F.plain_tuple_new _, codeAny_builtin F.entry_tuple_new ?_⟩))
  rw [Around.under_plainId F.plain_tuple_new _]
  have hsub := sub_tuple_self
  have hinit := init_tuple_lookup
  have hmh := madeHere_tuple
  have hTI : s.TypeIs (.ref r) "dict" := K.type s hok
  have hh1 : A.in1.handled = none := hh
  wp_walk using wpAny_typeOf hTI, collect_kdl (A := A.in1) K hh1 hok hn
  intro h' tk acc hk hacc
  show wpAny _ _ (Builtin.Tuple.tupleExact acc.toList.toArray >>= fun v => ret v) _ _ _
  unfold Builtin.Tuple.tupleExact
  refine wpAny_bind (wpAny_newObj_type ?_ (by show acc.toList.toArray.size ≤ sizeLine; simp only [Array.toArray_toList]; rw [hacc.1]; exact hn))
  refine wpAny_pure ?_
  have e : acc.toList.toArray = acc := by simp
  rw [e]
  exact h h' tk acc hk hacc
theorem call_tuple_kdl {Q : Value → Shared → Prop} (K : PySem.W.KdlSrc prog w "dict" r d n P OK) (hh : A.handled = none) (hok : OK s.heap) (hn : n ≤ sizeLine)
    (hQ : ∀ (h' : Heap) (tk : Nat) (acc : Array Value), (∀ b o, s.heap.get? b = some o → h'.get? b = some o) → ItemsOf P acc n →
      Q (.ref h'.objs.size) { s with heap := h'.push { cls := .type "tuple", data := .seq acc }, toks := tk }) :
    wpAny (model prog w) A (call (.type "tuple") [.ref r]) Q E s := by
  refine callType_codes (Q₁ := fun obj s₁ => s₁.TypeIs obj "tuple" ∧ Q obj s₁) F.called_tuple (F.typeCall_tuple_1 _) F.entry_object_init
    (code_tuple_new_kdl (A := A.in1) K hh hok hn fun h' tk acc hk hacc => ⟨⟨_, Heap.get?_push_size _ rfl, rfl⟩, hQ h' tk acc hk hacc⟩) fun obj s₁ h₁ => ?_
  exact ⟨h₁.1, F.args_object_init_2 obj _, object_init_meets F.called_tuple.init.lookup F.called_tuple.made (by decide) prog w A.in1 _ s₁ ⟨h₁.1, rfl, h₁.2⟩⟩
end
section
variable {X : Cx}
/-- tuple(d), keys ints and texts -/
theorem call_tuple_dK (hc : X.calm = true) : CallR X (.type "tuple") (fun xs H Q => ∃ p kvs, xs = [V.ref p] ∧ H p = some (.dK kvs) ∧ ∀ q, H q = none → Q (.ref q) (upd H q (.tup (kvs.map fun kv => kV kv.1)))) := by
  intro pins s σ H xs us Q I r h
  obtain ⟨p, kvs, e, hk, q⟩ := h
  subst e
  obtain ⟨u, eu, rx⟩ := vals1 r
  subst eu
  obtain rfl : u = Value.ref p := rx
  obtain ⟨z, lo, vs, rk, hd⟩ := (show ObjOk X.prog X.w H s.heap p (.dK kvs) from I.hok p _ hk)
  obtain ⟨ep, hat⟩ := hd.dictAt
  have hl : kvs.length = vs.length := Paired.length rk
  refine call_tuple_kdl (PySem.W.kdl_dict (knd := mixKind X.prog X.w) (kvs := vs) (ep := ep) lo) (I.ok.hd hc) hat (by rw [← hl]; exact z) fun h' tk acc' hkeep hacc => ?_
  have I1 : Inv X pins σ H { s with heap := h', toks := tk } := I.kept hkeep
  refine ⟨.ref h'.objs.size, upd H h'.objs.size (.tup (kvs.map fun kv => kV kv.1)), I1.laid (t' := tk) (fun b o e => Heap.get?_push_of_some _ e) (Nat.le_refl _) (show ObjOk X.prog X.w _ _ _ (.tup (kvs.map fun kv => kV kv.1)) from ⟨?_, acc'.toList, ?_, ?_⟩), rfl, q _ (I1.hok.fresh (Nat.le_refl _))⟩
  · rw [List.length_map]; exact z
  · have el : acc'.toList.length = acc'.size := by simp
    refine vals_of_at (by rw [List.length_map, el, hacc.1, hl]) fun j x w h1 h2 => ?_
    obtain ⟨k, y, hky, hi⟩ := hacc.2 j w (by rw [← Array.getElem?_toList]; exact h2)
    have e1 : (kvs.map (·.1))[j]? = some k := by
      rw [KV.keys rk, List.getElem?_map, hky] <;> rfl
    have e2 : (kvs.map fun kv => kV kv.1)[j]? = some (kV k) := by
      have e3 : (kvs.map fun kv => kV kv.1) = (kvs.map (·.1)).map kV := by rw [List.map_map] <;> rfl
      rw [e3, List.getElem?_map, e1] <;> rfl
    rw [e2] at h1
    cases h1
    exact keyIs_rel hi
  · rw [Array.toArray_toList]; exact IsTup.new _ _
/-- tuple(d), keys tuples -/
theorem call_tuple_dT (hc : X.calm = true) : CallR X (.type "tuple") (fun xs H Q => ∃ d kvs, xs = [V.ref d] ∧ Rd H d (.dT kvs) ∧ ∀ p bs, H p = none → IsKeys H kvs bs → Q (.ref p) (upd H p (.tup (bs.map V.ref)))) := by
  intro pins s σ H xs us Q I r h
  obtain ⟨d, kvs, rfl, hd, q⟩ := h
  obtain ⟨u, rfl, rx⟩ := r.one
  cases rx
  obtain ⟨z, hs, ks, pr, o, es, ep, ho, hx, hdt, he, hn⟩ := (show ObjOk X.prog X.w H s.heap d (.dT kvs) from hd.ok I.hok)
  have l1 : es.size = ks.length := size_of_entries he
  have l2 : kvs.length = ks.length := Paired.length pr
  refine call_tuple_kdl (kdl_raw hs hx hdt) (I.ok.hd hc) ho (by omega) fun h' tk acc' kp it => ?_
  have I1 : Inv X pins σ H { s with heap := h', toks := tk } := I.kept kp
  have ea : acc'.toList = ks.map fun x => Value.ref x.2.1 := by
    have hl : acc'.toList.length = ks.length := by rw [Array.length_toList, it.1]; exact l1
    apply List.ext_getElem?
    intro j
    rw [List.getElem?_map]
    cases hj : acc'.toList[j]? with
    | none =>
      have h1 := List.getElem?_eq_none_iff.mp hj
      rw [List.getElem?_eq_none (by omega)]
      all_goals rfl
    | some v =>
      obtain ⟨en, hen, hv⟩ := it.2 j v (by rw [← Array.getElem?_toList]; exact hj)
      have qe := entry_at he j
      rw [hen] at qe
      cases hb : ks[j]? with
      | none =>
        rw [hb] at qe
        exact nomatch (show some en = none from qe)
      | some b =>
        rw [hb] at qe
        have e2 : en = entryOfKey (tupleKind (mixKind X.prog X.w)) b := Option.some.inj qe
        rw [hv, e2]
        all_goals rfl
  have eb : acc'.toList = (ks.map fun x => x.2.1).map Value.ref := by rw [ea, List.map_map]; all_goals rfl
  have rv : Vals ((ks.map fun x => x.2.1).map V.ref) acc'.toList := by rw [eb]; exact vals_refs _
  have hz : ((ks.map fun x => x.2.1).map V.ref).length ≤ sizeLine := by rw [List.length_map, List.length_map]; omega
  refine ⟨.ref h'.objs.size, _, I1.laid (t' := tk) (o := .tup ((ks.map fun x => x.2.1).map V.ref)) (fun b o e => Heap.get?_push_of_some _ e) (Nat.le_refl _) ?_, rfl, q _ _ (I1.hok.fresh (Nat.le_refl _)) (isKeys_of pr)⟩
  exact ⟨hz, acc'.toList, rv, by rw [Array.toArray_toList]; exact IsTup.new _ _⟩
end
end Wd
end
section
set_option Elab.async false
set_option linter.all false
set_option maxRecDepth 100000
set_option maxHeartbeats 1000000
/-! The truth of a dict with tuple keys; a star in targets; a chain of three comparisons. -/
namespace Wd
open PySem PySem.Spec PyProof.Rows L2
section
variable {prog : Program} {w : World} {A : Around} {E : Value → Shared → Prop} {s : Shared}
theorem truthy_dictH {K : Type} [DecidableEq K] {knd : HeapKind prog w K} {d : Addr} {kvs : List (K × Addr × Value)} {Q : Bool → Shared → Prop} (hd : (d == sysModules) = false) (hm : s.heap.DictOfH knd d kvs) (hfit : (kvs.length : Int) < 2 ^ 63)
    (h : Q (!kvs.isEmpty) { s with toks := s.toks + 1 + 1 }) : wpAny (model prog w) A (truthy (.ref d)) Q E s := by
  have hne : ((kvs.length : Int) != 0) = !kvs.isEmpty := by cases kvs <;> simp <;> omega
  have key : wpAny (model prog w) A (runValue (.builtin "len" ⟨[.ref d], []⟩)) (fun r s' => r = .int kvs.length (s.toks + 1) ∧ Q (!kvs.isEmpty) s') E s := by
    refine wpAny_runValue (codeAny_builtin entry_len ?_)
    rw [Around.under_plainId plain_len _]
    exact wpAny_mono (wpAny_len_body_dictH (Q := fun r s' => r = .int kvs.length (s.toks + 1) ∧ Q (!kvs.isEmpty) s') hd hm hfit ⟨rfl, h⟩)
      (fun fin s' h' => by obtain ⟨r, rfl, hq⟩ := h'; exact hq) fun _ _ e => e
  unfold truthy
  first
    | refine wpAny_bind (wpAny_callSpecial?_none (name := Str.ofString "__bool__") hm.typeIs noBool_dict ?_)
    | refine wpAny_bind (wpAny_pure (wpAny_bind (wpAny_callSpecial?_none (name := Str.ofString "__bool__") hm.typeIs noBool_dict ?_)))
  first
    | refine wpAny_bind (wpAny_specialOf (name := Str.ofString "__len__") hm.typeIs F.slot_dict_len.lookup ?_)
    | refine wpAny_bind (wpAny_pure (wpAny_bind (wpAny_specialOf (name := Str.ofString "__len__") hm.typeIs F.slot_dict_len.lookup ?_)))
  first
    | exact wpAny_bind (wpAny_mono key (fun r s' h' => by obtain ⟨rfl, hq⟩ := h'; exact wpAny_pure (hne ▸ hq)) fun _ _ e => e)
    | exact wpAny_bind (wpAny_pure (wpAny_bind (wpAny_mono key (fun r s' h' => by obtain ⟨rfl, hq⟩ := h'; exact wpAny_pure (hne ▸ hq)) fun _ _ e => e)))
theorem walks_shift {I : Addr} {fp wr : List Addr} {n k : Nat} {P : Nat → Value → Prop} {St : Nat → Heap → Prop} (W : Walks prog w A I fp wr (k + n) P St) : Walks prog w A I fp wr n (fun i => P (k + i)) (fun i => St (k + i)) where
  sub := W.sub
  frame := fun i h h' st hk => W.frame (k + i) h h' st hk
  item := fun i s Q E hi st hQ => W.item (k + i) s Q E (by omega) st hQ
  done := fun s Q E st hQ => W.done s Q E st hQ
  self := fun i s Q E st hQ => W.self (k + i) s Q E st hQ
end
section
variable {X : Cx} {pos : Pos}
theorem tru_dT : TruR X (fun x H Q => ∃ a kvs, x = .ref a ∧ H a = some (.dT kvs) ∧ Q (!kvs.isEmpty) H) := by
  intro pins s σ H x v Q I rx h
  obtain ⟨a, kvs, rfl, hp, q⟩ := h
  obtain rfl : v = .ref a := rx
  obtain ⟨z, hd, ys, rel, dd⟩ := dt_of I.hok hp
  have hl : kvs.length = ys.length := Paired.length rel
  refine truthy_dictH hd dd (by rw [← hl]; rw [sizeLine_eq] at z; omega) ?_
  have e : (!ys.isEmpty) = !kvs.isEmpty := by cases rel <;> rfl
  rw [e]
  exact ⟨H, I.tok _, q⟩
/-- x, *y = a list -/
def gStar (K : PySem.W.Frag) (t : TGs) : TG := fun v σ H Q => ∃ a x xs, v = .ref a ∧ SqL K H a (x :: xs) ∧ ∀ p, H p = none → t [x, .ref p] σ (upd H p (.lst xs)) Q
theorem pg_star {es : List Expr} {k : Nat} {t : TGs} (hc : X.calm = true) (h : PGs X es t)
    (hn : (assignEach es X.env).length = 2 := by rfl) (hst : (assignEach es X.env).findIdx? (·.1) = some 1 := by rfl) : PG X (.Tuple es k pos) (gStar X.K t) := by
  refine ⟨fun pins s σ H v u Q I r hw => ?_⟩
  obtain ⟨a, x, xs, e1, hq, hw⟩ := hw
  subst e1
  cases r
  obtain ⟨its, rv, pl, hz⟩ := I.list hq
  cases rv with
  | @cons _ y _ ys rx rxs =>
  have hl' : s.heap.IsList a (y :: ys).toArray := by
    obtain ⟨o, m, e, c, d, q⟩ := pl
    exact ⟨o, e, c, m, q⟩
  have hlt : a ≠ s.heap.objs.size := by obtain ⟨o, ho, _⟩ := hl'; exact Nat.ne_of_lt (Heap.lt_size ho)
  have hh := I.ok.hd hc
  rw [PyProof.Rows.assign_Tuple]
  refine wpAny_bind (wpAny_standAt ?_)
  unfold unpack
  rw [hn, hst]
  unfold unpackItems
  refine wpAny_bind (wpAny_holding (wpAny_bind ?_))
  unfold notIterableAtAll
  refine wpAny_bind (wpAny_specialOf hl'.typeIs PySem.F.slot_list_iter.lookup ?_)
  refine wpAny_pure ?_
  simp only [Bool.false_eq_true, if_false]
  refine wpAny_bind (wpAny_holding (wpAny_pyIter_list hl' ?_))
  refine wpAny_bind (wpAny_holding (PySem.W.kun_draw hlt 1 0 _ _ ⟨_, Heap.get?_push_size _ rfl, rfl, rfl⟩ (hl'.push _) (by simp) fun h₁ hit₁ hs₁ => ?_))
  have e1 : ((y :: ys).toArray.toList.drop 0).take 1 = [y] := by simp
  rw [e1]
  rw [if_neg (by simp)]
  have hl₁ : h₁.IsList a (y :: ys).toArray := (hl'.push _).extBut hs₁.extBut hlt
  have hsz1 : h₁.objs.size = s.heap.objs.size + 1 := by rw [hs₁.1, Heap.size_push]
  have W := walks_shift (k := 1) (n := ys.length) (by
    have w0 := Walks.list (prog := X.prog) (w := X.w) (A := X.A.in1) hh s.heap.objs.size a hlt (y :: ys).toArray
    have en : (y :: ys).toArray.size = 1 + ys.length := by simp; omega
    rw [en] at w0
    exact w0)
  refine wpAny_bind (wpAny_holding (wpAny_collect_iter (s := { s with heap := h₁ }) (.inr (.inr (.inl rfl))) W.toS (fun i s' st => ?_) ⟨hit₁, hl₁⟩ (fun b hb => ?_) (by simp) (fun s' acc mv it => ?_) (by rw [sizeLine_eq] at hz ⊢; have := rxs.length; simp at hz; omega)))
  · obtain ⟨o, ho, hc', _⟩ := st.1
    exact ⟨o, ho, hc'⟩
  · show b < h₁.objs.size
    rw [hsz1]
    have ha : a < s.heap.objs.size := by obtain ⟨o, ho, _⟩ := hl'; exact Heap.lt_size ho
    have e' : b = s.heap.objs.size ∨ b = a := by simpa using hb
    rcases e' with z | z
    · rw [z]; exact Nat.lt_succ_self _
    · rw [z]; exact Nat.lt_succ_of_lt ha
  · have ea : acc.toList = ys := by
      have hlen : acc.toList.length = ys.length := by rw [Array.length_toList]; exact it.1
      apply List.ext_getElem?
      intro j
      cases hj : acc.toList[j]? with
      | none =>
        have h1 := List.getElem?_eq_none_iff.mp hj
        rw [List.getElem?_eq_none (by omega)]
      | some v =>
        have this : (y :: ys).toArray[1 + j]? = some v := it.2 j v (by rw [← Array.getElem?_toList]; exact hj)
        rw [show (1 + j) = j + 1 by omega] at this
        simpa using this.symm
    rw [ea]
    rw [if_neg (by simp)]
    have e2 : ys.take (ys.length - (2 - 1 - 1)) = ys := by simp
    have e3 : ys.drop (ys.length - (2 - 1 - 1)) = [] := by simp
    rw [e2, e3]
    obtain ⟨mh, mg, md, mo, mt⟩ := mv
    have kp : ∀ b o, s.heap.get? b = some o → s'.heap.get? b = some o := fun b o e => by
      have hb : b ≠ s.heap.objs.size := Nat.ne_of_lt (Heap.lt_size e)
      exact mh b o (by simpa using hb) (hs₁.extBut b o hb (Heap.get?_push_of_some _ e))
    obtain ⟨hp', g', d', tk', os'⟩ := s'
    dsimp only at mg md mo kp
    subst mg md mo
    have I1 : Inv X pins σ H ⟨hp', s.gens, s.drawn, tk', s.os⟩ := I.kept (t' := tk') (h' := hp') kp
    have zl : ys.length ≤ sizeLine := by rw [sizeLine_eq] at hz ⊢; have := rxs.length; simp at hz; omega
    refine wpAny_bind (wpAny_newList ?_ zl)
    refine wpAny_pure ?_
    have zx : xs.length ≤ sizeLine := by have := rxs.length; omega
    have I2 : Inv X pins σ (upd H hp'.objs.size (.lst xs)) ⟨hp'.push { cls := .type "list", data := .seq ys.toArray }, s.gens, s.drawn, tk', s.os⟩ :=
      I1.laid (t' := tk') (fun b o e => Heap.get?_push_of_some _ e) (Nat.le_refl _) (show ObjOk X.prog X.w _ _ _ (.lst xs) from ⟨zx, ys, 0, rxs, Heap.get?_push_size _ rfl⟩)
    exact h.run pins _ σ _ [x, .ref hp'.objs.size] [y, .ref hp'.objs.size] Q I2 (.cons rx (.cons rfl .nil)) (hw _ (I1.hok.fresh (Nat.le_refl _)))
theorem pgs_starred {e : Expr} {es : List Expr} {t : TG} {u : TGs} {p : Pos} (h1 : PG X e t) (h2 : PGs X es u) : PGs X (.Starred e p :: es) (gCons t u) := by
  refine ⟨fun pins s σ H vs us Q I r h => ?_⟩
  obtain ⟨v, vr, e1, h⟩ := h
  subst e1
  cases r with
  | cons r rr =>
    rw [PySem.arm_assignEach_Starred, List.map_cons]
    refine PyProof.Rows.assignInOrder_cons (thn (h1.run pins s σ H _ _ _ I r h) fun _ s1 ⟨σ1, H1, I1, q1⟩ => ?_)
    exact h2.run pins s1 σ1 H1 _ _ Q I1 rr q1
/-- a op1 b op2 c op3 d -/
def tChain3 (r r' r'' : R2) (ta tb tc td : TE) : TE := fun σ H Q => ta σ H fun x H1 => tb σ H1 fun y H2 => r x y H2 fun z H3 => ∃ k, z = .bl k ∧
  (if k = true then tc σ H3 fun w' H4 => r' y w' H4 fun z' H5 => ∃ k', z' = .bl k' ∧ (if k' = true then td σ H5 fun v' H6 => r'' w' v' H6 Q else Q (.bl false) H5) else Q (.bl false) H3)
theorem pe_chain3 {op op' op'' : CmpOp} {r r' r'' : R2} {a b c d : Expr} {ta tb tc td : TE} (ho : OpR X (compareOp op) r) (ho' : OpR X (compareOp op') r') (ho'' : OpR X (compareOp op'') r'') (ha : PE X a ta) (hb : PE X b tb) (hc : PE X c tc) (hd : PE X d td)
    (hm : lastMarks [op, op', op''] [b, c, d] = false := by with_unfolding_all rfl) : PE X (.Compare a [op, op', op''] [b, c, d] pos) (tChain3 r r' r'' ta tb tc td) := by
  refine ⟨fun pins s σ H Q I h => ?_⟩
  refine Compare_chain (thn (ha.run pins s σ H _ I h) fun v s1 ⟨x, H1, I1, r1, q1⟩ => chain_link (thn (hb.run pins s1 σ H1 _ I1 q1) fun u s2 ⟨y, H2, I2, r2, q2⟩ =>
    thn (ho pins s2 σ H2 x y v u _ I2 r1 r2 q2) fun d s3 ⟨z, H3, I3, r3, k, e, q3⟩ => ?_)) hm
  subst e
  cases r3
  refine wpAny_truthy_bool ?_
  cases k with
  | false => exact ite_ff ⟨.bl false, H3, I3, rfl, q3⟩
  | true =>
    refine ite_tt (chain_link (thn (hc.run pins s3 σ H3 _ I3 q3) fun w' s4 ⟨z', H4, I4, r4, q4⟩ => thn (ho' pins s4 σ H4 y z' u w' _ I4 r2 r4 q4) fun d' s5 ⟨z5, H5, I5, r5, k', e', q5⟩ => ?_))
    subst e'
    cases r5
    refine wpAny_truthy_bool ?_
    cases k' with
    | false => exact ite_ff ⟨.bl false, H5, I5, rfl, q5⟩
    | true => exact ite_tt (chain_last (thn (hd.run pins s5 σ H5 _ I5 q5) fun v' s6 ⟨z6, H6, I6, r6, q6⟩ => ho'' pins s6 σ H6 z' z6 w' v' Q I6 r4 r6 q6))
end
end Wd
end
section
set_option Elab.async false
set_option linter.all false
set_option maxRecDepth 100000
set_option maxHeartbeats 0
namespace Wd
open PySem PySem.Spec PyProof.Rows L2
def obsU (q : PySem.W.Frag → Bool) (fn : List He.DefD) (ts : List He.Tab) (K : PySem.W.Frag) : He.AlT :=
  ((q K && fn.all (He.DefD.ok K), fn.map fun d => He.fnW K d.at_), ts.map fun t => He.dicW K (t.1 K))
def SaysU (q : PySem.W.Frag → Bool) (fn : List He.DefD) (ts : List He.Tab) (w : World) (K : PySem.W.Frag) : Prop := obsU q fn ts K = He.valT fn ts w
structure SaysV (q : PySem.W.Frag → Bool) (fn : List He.DefD) (ts : List He.Tab) (tf : List He.Defn) (w : World) (h : Heap) (K : PySem.W.Frag) : Prop where
  u : SaysU q fn ts w K
  hd : ∀ p ∈ tf, PySem.W.codeHdIn K (He.cT K p).1 (He.cT K p).2 = true
  out : ∀ p ∈ tf, K.lookup (He.cT K p).2 = none
  empty : ∀ p ∈ tf, h.get? (He.cT K p).2 = some { cls := .none, data := .fields #[] }
def seeU (as : List Addr) (q : PySem.W.Frag → Bool) (fn : List He.DefD) (ts : List He.Tab) (tf : List He.Defn) (g : Addr → Option Obj) : He.AlX := (obsU q fn ts (He.frT g as), He.tabsB g tf (He.frT g as))
theorem saysV_of {as : List Addr} {q : PySem.W.Frag → Bool} {fn : List He.DefD} {ts : List He.Tab} {tf : List He.Defn} {w : World} {h : Heap} (e : seeU as q fn ts tf h.get? = (He.valT fn ts w, true)) : SaysV q fn ts tf w h (He.frT h.get? as) := by
  have e1 : obsU q fn ts (He.frT h.get? as) = He.valT fn ts w := congrArg (fun z : He.AlX => z.1) e
  have e2 : He.tabsB h.get? tf (He.frT h.get? as) = true := congrArg (fun z : He.AlX => z.2) e
  have key : ∀ p ∈ tf, PySem.W.codeHdIn (He.frT h.get? as) (He.cT (He.frT h.get? as) p).1 (He.cT (He.frT h.get? as) p).2 = true ∧ ∃ o, h.get? (He.cT (He.frT h.get? as) p).2 = some o ∧ He.emptyTab o = true := fun p hp => by
    obtain ⟨h3, h4⟩ := He.ba (List.all_eq_true.mp e2 p hp)
    refine ⟨h3, ?_⟩
    cases q : h.get? (He.cT (He.frT h.get? as) p).2 with
    | none =>
      rw [q] at h4
      cases h4
    | some o =>
      rw [q] at h4
      exact ⟨o, rfl, h4⟩
  exact ⟨e1, fun p hp => (key p hp).1, fun p hp => by
    obtain ⟨_, o, q, z⟩ := key p hp
    exact He.frT_none q z, fun p hp => by
    obtain ⟨_, o, q, z⟩ := key p hp
    rw [q, He.emptyTab_eq z]⟩
def hookU (as : List Addr) (q : PySem.W.Frag → Bool) (fn : List He.DefD) (ts : List He.Tab) (tf : List He.Defn) : PySem.W.Hook where
  α := He.AlX
  obs := fun s => seeU as q fn ts tf s.heap.get?
  val := fun w => (He.valT fn ts w, true)
  says := fun w h => ∃ K : PySem.W.Frag, K.In h ∧ SaysV q fn ts tf w h K
  of := fun _ s z => ⟨He.frT s.heap.get? as, He.frT_in, saysV_of z⟩
  keeps := fun _ _ _ ⟨K, hin, z⟩ kp => ⟨K, hin.keeps kp, ⟨z.u, z.hd, z.out, fun p hp => kp _ _ (z.empty p hp)⟩⟩
theorem seeU_eq {as : List Addr} {q : PySem.W.Frag → Bool} {fn : List He.DefD} {ts : List He.Tab} {tf : List He.Defn} {g : Addr → Option Obj} {s : Shared} (h : ∀ a, g a = s.heap.get? a) :
    seeU as q fn ts tf g = (hookU as q fn ts tf).obs s := by
  rw [show g = s.heap.get? from funext h] <;> rfl
section
variable {q : PySem.W.Frag → Bool} {fn : List He.DefD} {ts : List He.Tab} {w : World} {K : PySem.W.Frag}
theorem SaysU.test (c : SaysU q fn ts w K) : q K = true :=
  (He.ba (show (q K && fn.all (He.DefD.ok K)) = true from congrArg (fun z : He.AlT => z.1.1) c)).1
theorem SaysU.def_ (c : SaysU q fn ts w K) (i : Nat) {d : He.DefD} (h : fn[i]? = some d := by rfl) :
    ∃ fd, FunD K d.name d.qual d.params d.body d.scope (d.dvs K) (d.kws K) (He.fAd K d.at_) fd := by
  have all := (He.ba (show (q K && fn.all (He.DefD.ok K)) = true from congrArg (fun z : He.AlT => z.1.1) c)).2
  have e : fn.map (fun d => He.fnW K d.at_) = fn.map He.DefD.val := congrArg (fun z : He.AlT => z.1.2) c
  have e2 : (fn.map fun d => He.fnW K d.at_)[i]? = (fn.map He.DefD.val)[i]? := by rw [e]
  simp only [List.getElem?_map, h, Option.map_some] at e2
  exact He.DefD.funD (Option.some.inj e2) (List.all_eq_true.mp all d (List.mem_of_getElem? h))
theorem SaysU.tab (c : SaysU q fn ts w K) (i : Nat) {t : He.Tab} (h : ts[i]? = some t := by rfl) : ∃ es n, KDict K w (t.1 K) es n := by
  have e : ts.map (fun t => He.dicW K (t.1 K)) = ts.map fun t => some (He.keysIn w.params t.2) := congrArg (fun z : He.AlT => z.2) c
  have e2 : (ts.map fun t => He.dicW K (t.1 K))[i]? = (ts.map fun t => some (He.keysIn w.params t.2))[i]? := by rw [e]
  rw [List.getElem?_map, List.getElem?_map, h] at e2
  exact He.dicW_ok (Option.some.inj e2)
end
/-- under a key of a dict of the top: a tuple of these -/
def dtup (K : PySem.W.Frag) (x k : Str) : Addr := match PySem.W.nsIn K (He.ga K x) k with
  | some (some (.ref t)) => t
  | _ => 0
def dtupB (K : PySem.W.Frag) (x k : Str) (vs : List He.Dv) : Bool := He.eqO (PySem.W.nsIn K (He.ga K x) k) (some (some (.ref (dtup K x k)))) && (match K.lookup (dtup K x k) with
  | some ⟨.type c, _, .seq its _, _⟩ => decide (c = "tuple") && (decide (its.size ≤ sizeLine) && He.relAll (vs.map (He.Dv.v K)) its.toList)
  | _ => false)
/-! ### the text -/
def top (i : Nat) : Stmt := PySem.Challenge.pw_whoseday_k05_clocks_and_days_are_shown.main.body.getD i (.Pass ⟨0, 0, 0, 0⟩)
abbrev i__wall : Nat := 0
abbrev i_is_integer : Nat := 9
abbrev i_is_name : Nat := 10
abbrev i_number_in : Nat := 11
abbrev i_entry_of : Nat := 16
abbrev i_is_kind : Nat := 17
abbrev i__later : Nat := 18
abbrev i__parts : Nat := 19
abbrev i_is_rule : Nat := 25
abbrev i__is_day_rule : Nat := 26
abbrev i_minutes_of : Nat := 29
abbrev i_clock_lead : Nat := 30
abbrev i_need_known : Nat := 31
abbrev i_clock : Nat := 33
abbrev i_shown : Nat := 34
abbrev i_minutes_held : Nat := 35
abbrev i__copiers : Nat := 36
abbrev i__days : Nat := 37
abbrev i_is_offset : Nat := 44
abbrev i_read_parts : Nat := 45
abbrev i_net_text : Nat := 46
abbrev i__rule_lines : Nat := 47
abbrev i__goals_by_start : Nat := 50
abbrev i__law_pen : Nat := 52
abbrev i__law_draw : Nat := 53
abbrev i__law_pick : Nat := 54
abbrev i__law_shuffled : Nat := 55
abbrev i__law_big : Nat := 56
abbrev i__law_words : Nat := 57
abbrev i__law_offset : Nat := 58
abbrev i__law_hours : Nat := 59
abbrev i__law_rules_for : Nat := 60
abbrev i__law_rule : Nat := 61
abbrev i__law_routes : Nat := 62
abbrev i__law_net : Nat := 63
abbrev i__law_net_text : Nat := 64
abbrev i__law_names : Nat := 65
abbrev i__law_offset_of : Nat := 66
abbrev i__law_home : Nat := 67
abbrev i__law_minute : Nat := 68
abbrev i__law_entry_of : Nat := 69
abbrev i__law_entry_text : Nat := 70
abbrev i__law_seen : Nat := 71
abbrev i__law_whole : Nat := 72
abbrev i__law_met : Nat := 73
abbrev i__law_shows_right : Nat := 74
abbrev i__law_refused : Nat := 75
abbrev i_law : Nat := 76
abbrev i_WhosedayError : Nat := 2
abbrev i_BadText : Nat := 3
abbrev j_BadText___init__ : Nat := 0
abbrev i_NoZone : Nat := 4
abbrev j_NoZone___init__ : Nat := 0
abbrev i_NoProgram : Nat := 5
abbrev j_NoProgram___init__ : Nat := 0
abbrev i_Entry : Nat := 15
abbrev j_Entry___init__ : Nat := 0
abbrev j_Entry___eq__ : Nat := 1
abbrev j_Entry___add__ : Nat := 2
abbrev j_Entry___sub__ : Nat := 3
abbrev i_Copier : Nat := 28
abbrev j_Copier___init__ : Nat := 0
abbrev j_Copier_effect : Nat := 1
abbrev j_Copier_lead : Nat := 2
abbrev j_Copier_carry : Nat := 3
abbrev j_Copier_day : Nat := 4
abbrev i_Parts : Nat := 43
abbrev j_Parts___init__ : Nat := 0
abbrev j_Parts_take : Nat := 1
abbrev j_Parts_take_zone : Nat := 2
abbrev j_Parts_take_program : Nat := 3
abbrev j_Parts_take_rule : Nat := 4
abbrev j_Parts_take_route : Nat := 5
abbrev i_Net : Nat := 49
abbrev j_Net___init__ : Nat := 0
abbrev j_Net___eq__ : Nat := 1
abbrev j_Net_offset_of : Nat := 2
abbrev j_Net_home_of : Nat := 3
abbrev j_Net_targets_of : Nat := 4
abbrev j_Net_rule_of : Nat := 5
abbrev j_Net_with_zone : Nat := 6
abbrev j_Net_with_offset : Nat := 7
abbrev j_Net_with_program : Nat := 8
abbrev j_Net_without_program : Nat := 9
abbrev j_Net_with_home : Nat := 10
abbrev j_Net_with_rule : Nat := 11
abbrev j_Net_with_route : Nat := 12
abbrev j_Net_without_route : Nat := 13
abbrev j_Net_with_offsets : Nat := 14
abbrev j_Net_with_rules : Nat := 15
abbrev j_Net_without_routes : Nat := 16
abbrev j_Net__with_homes : Nat := 17
abbrev j_Net__with_routes : Nat := 18
abbrev j_Net__need_zone : Nat := 19
abbrev j_Net__need_program : Nat := 20
end Wd
end
section
set_option Elab.async false
set_option linter.all false
set_option maxRecDepth 100000
set_option maxHeartbeats 4000000
/-! ### what the class of an error says, told by a test -/
namespace Wd
open PySem PySem.Spec PyProof.Rows L2
def errB (K : PySem.W.Frag) (C : Addr) : Bool :=
  (PySem.W.clsIn K C).isSome && (He.eqO (PySem.W.findIn K (.ref C) "__getattribute__") (some (some (.builtin "BaseException.__getattribute__"))) &&
  (He.eqO (PySem.W.findIn K (.ref C) "__getattr__") (some none) && (decide (PySem.W.subIn K (.ref C) (.type "BaseException") = some true) &&
  (PySem.W.hasDictIn K C && (He.eqO (PySem.W.findIn K (.ref C) "__class__") (some (some (.builtin "object.__class__"))) && decide (PySem.W.mroIn K C (.type "object") = some true))))))
def oexB (K : PySem.W.Frag) (C : Addr) : Bool :=
  (match K.lookup C with
    | some ⟨.type "type", _, .cls cd, sl⟩ => (match cd.mro, sl.toList with
      | .ref C' :: bm, [_, _, _, _, some (.builtin n), _] => C' == C && (n == "ValueError.__new__" && (!cd.hasDel && (cd.hasDict && PySem.HandSPX.refsVE bm)))
      | _, _ => false)
    | _ => false) && (He.eqO (PySem.W.findIn K (.ref C) "__setattr__") (some (some (.builtin "object.__setattr__"))) &&
  (decide (PySem.W.typeIn K (.ref C) = some (.type "type")) && PySem.W.keepIn K (.ref C)))
def iniB (K : PySem.W.Frag) (x f : Str) : Bool :=
  oexB K (He.ga K x) && (He.eqO (PySem.W.findIn K (.ref (He.ga K x)) f) (some none) &&
  (He.eqO (PySem.W.findIn K (.ref (He.ga K x)) "__init__") (some (some (.ref (He.ma K (He.ga K x) "__init__")))) &&
  decide (PySem.W.typeIn K (.ref (He.ma K (He.ga K x) "__init__")) = some (.type "function"))))
def clsB (K : PySem.W.Frag) : Bool := He.eqO (PySem.W.specialIn K (.builtin "object.__class__") "__get__") (some (some (.builtin "getset_descriptor.__get__"))) && decide (PySem.W.takesIn K (.builtin "object.__class__") = some true)
theorem errC_of {K : PySem.W.Frag} {C : Addr} (h : errB K C = true) (c : clsB K = true) : ErrC K C := by
  obtain ⟨h1, h⟩ := He.ba h
  obtain ⟨h2, h⟩ := He.ba h
  obtain ⟨h3, h⟩ := He.ba h
  obtain ⟨h4, h⟩ := He.ba h
  obtain ⟨h5, h⟩ := He.ba h
  obtain ⟨h6, h7⟩ := He.ba h
  obtain ⟨c1, c2⟩ := He.ba c
  exact ⟨h1, He.eqO_ok h2, He.eqO_ok h3, of_decide_eq_true h4, h5, He.eqO_ok h6, He.eqO_ok c1, of_decide_eq_true c2, of_decide_eq_true h7⟩
theorem oexC_of {K : PySem.W.Frag} {C : Addr} (be : PySem.W.subIn K (.ref C) (.type "BaseException") = some true) (h : oexB K C = true) : OexC K C := by
  obtain ⟨h0, h⟩ := He.ba h
  obtain ⟨h1, h⟩ := He.ba h
  obtain ⟨h2, h3⟩ := He.ba h
  refine ⟨?_, He.eqO_ok h1, be, of_decide_eq_true h2, h3⟩
  split at h0
  · rename_i dd cd sl ho
    split at h0
    · rename_i C' bm k0 k1 k2 k3 n k5 hm hs
      simp only [Bool.and_eq_true, beq_iff_eq, Bool.not_eq_true'] at h0
      obtain ⟨rfl, rfl, hdel, hdict, htail⟩ := h0
      obtain ⟨nm, bs, mro, ns, qn, hd, sn, sub, ab, col, del⟩ := cd
      dsimp only at hm hdel hdict
      subst hm hdel hdict
      have hsl : sl = #[k0, k1, k2, k3, some (.builtin "ValueError.__new__"), k5] := by
        obtain ⟨l⟩ := sl
        simp only at hs
        rw [hs]
      subst hsl
      exact ⟨nm, qn, ns, bs, bm, sn, sub, ab, col, dd, k0, k1, k2, k3, k5, ho, htail⟩
    · cases h0
  · cases h0
theorem iniB_ok {K : PySem.W.Frag} {x f : Str} (h : iniB K x f = true) : oexB K (He.ga K x) = true ∧ PySem.W.findIn K (.ref (He.ga K x)) f = some none ∧
    PySem.W.findIn K (.ref (He.ga K x)) "__init__" = some (some (.ref (He.ma K (He.ga K x) "__init__"))) ∧ PySem.W.typeIn K (.ref (He.ma K (He.ga K x) "__init__")) = some (.type "function") := by
  obtain ⟨h1, h2⟩ := He.ba h
  obtain ⟨h3, h4⟩ := He.ba h2
  obtain ⟨h5, h6⟩ := He.ba h4
  exact ⟨h1, He.eqO_ok h3, He.eqO_ok h5, of_decide_eq_true h6⟩
end Wd
end
section
set_option Elab.async false
set_option linter.all false
set_option maxRecDepth 100000
set_option maxHeartbeats 0
namespace Wd
open PySem PySem.Spec PyProof.Rows L2
def glD (x : Str) (st : Stmt) (dfl : List He.Dv) (kwd : List (Str × He.Dv)) : He.DefD := ⟨(x, none), x, x, defArgs st, defBody st, defScope st, dfl, kwd⟩
def meD (c m q : Str) (st : Stmt) (dfl : List He.Dv) (kwd : List (Str × He.Dv)) : He.DefD := ⟨(c, some m), m, q, defArgs st, defBody st, defScope st, dfl, kwd⟩
def names : List PySem.Str := (["_wall", "WhosedayError", "BadText", "NoZone", "NoProgram", "MOST_DIGITS", "MOST_LETTERS", "is_integer", "is_name", "number_in", "DAY", "KINDS", "Entry", "entry_of", "is_kind", "_later", "_parts", "KEEP", "LAST_MINUTE", "CLOCKED", "RULES", "is_rule", "_is_day_rule", "Copier", "minutes_of", "clock_lead", "need_known", "clock", "shown", "minutes_held"] : List PySem.Str) ++
  (["_copiers", "_days", "MOST_ZONES", "MOST_PROGRAMS", "MOST_ROUTES", "MOST_OFFSET", "Parts", "is_offset", "read_parts", "net_text", "_rule_lines", "Net", "_goals_by_start", "_law_pen", "_law_draw", "_law_pick", "_law_shuffled", "_law_big", "_law_words", "_law_offset", "_law_hours", "_law_rules_for", "_law_rule", "_law_routes", "_law_net", "_law_net_text", "_law_names", "_law_offset_of", "_law_home", "_law_minute"] : List PySem.Str) ++
  (["_law_entry_of", "_law_entry_text", "_law_seen", "_law_whole", "_law_met", "_law_shows_right", "_law_refused"] : List PySem.Str)
def fas : List He.Fa := ([.glo "is_integer", .glo "is_name", .glo "number_in", .glo "entry_of", .glo "is_kind", .glo "_later", .glo "_parts", .glo "is_rule", .glo "_is_day_rule", .glo "minutes_of", .glo "clock_lead", .glo "need_known", .glo "clock", .glo "shown", .glo "minutes_held", .glo "_copiers", .glo "_days", .glo "is_offset", .glo "read_parts", .glo "net_text", .glo "_rule_lines", .glo "_goals_by_start", .glo "_law_pen", .glo "_law_draw", .glo "_law_pick", .glo "_law_shuffled", .glo "_law_big", .glo "_law_words", .glo "_law_offset", .glo "_law_hours"] : List He.Fa) ++
  ([.glo "_law_rules_for", .glo "_law_rule", .glo "_law_routes", .glo "_law_net", .glo "_law_net_text", .glo "_law_names", .glo "_law_offset_of", .glo "_law_home", .glo "_law_minute", .glo "_law_entry_of", .glo "_law_entry_text", .glo "_law_seen", .glo "_law_whole", .glo "_law_met", .glo "_law_shows_right", .glo "_law_refused", .glo "law", .glo "Entry", .glo "Copier", .glo "Parts", .glo "Net", .int "MOST_DIGITS" 30, .int "MOST_LETTERS" 12, .int "DAY" 1440, .glo "KINDS", .str "KEEP" "keep", .int "LAST_MINUTE" 1439, .glo "CLOCKED", .glo "RULES", .int "MOST_ZONES" 6] : List He.Fa) ++
  ([.int "MOST_PROGRAMS" 12, .int "MOST_ROUTES" 40, .int "MOST_OFFSET" 840, .free "all", .free "bool", .free "dict", .free "enumerate", .free "int", .free "isinstance", .free "len", .free "list", .free "range", .free "str", .free "tuple", .cls "Entry", .mkr "Entry", .noat "Entry" "text", .noat "Entry" "kind", .noat "Entry" "first", .noat "Entry" "last", .noat "Entry" "zone", .meth "Entry" "__eq__", .meth "Entry" "__add__", .meth "Entry" "__sub__", .cls "Copier", .mkr "Copier", .noat "Copier" "_net", .noat "Copier" "_end", .noat "Copier" "_effects", .noat "Copier" "_leads"] : List He.Fa) ++
  ([.meth "Copier" "lead", .meth "Copier" "day", .cls "Parts", .mkr "Parts", .noat "Parts" "offsets", .noat "Parts" "homes", .noat "Parts" "rules", .noat "Parts" "routes", .meth "Parts" "take", .meth "Parts" "take_zone", .meth "Parts" "take_program", .meth "Parts" "take_rule", .meth "Parts" "take_route", .cls "Net", .mkr "Net", .noat "Net" "_offsets", .noat "Net" "_homes", .noat "Net" "_rules", .noat "Net" "zones", .noat "Net" "programs", .noat "Net" "routes", .noat "Net" "_targets", .noat "Net" "text", .meth "Net" "__eq__", .meth "Net" "offset_of", .meth "Net" "home_of", .meth "Net" "_need_zone", .meth "Net" "_need_program", .glo "NoProgram", .exm "NoProgram" "NoProgram" true] : List He.Fa) ++
  ([.glo "NoZone", .exm "NoZone" "NoZone" true, .glo "WhosedayError"] : List He.Fa)
def tst (K : PySem.W.Frag) : List Bool := [He.tupB K "KINDS" [.str "day", .str "float", .str "zoned", .str "fixed"],
  He.tupB K "CLOCKED" [.str "float", .str "zoned", .str "fixed"],
  dtupB K "RULES" "float" [.str "day", .str "zoned", .str "fixed"],
  dtupB K "RULES" "zoned" [.str "own day", .str "home day", .str "own float", .str "home float", .str "as if", .str "moved", .str "fixed"],
  dtupB K "RULES" "fixed" [.str "day", .str "float", .str "zoned"],
  errB K (He.ga K "NoProgram"),
  iniB K "NoProgram" "name",
  errB K (He.ga K "NoZone"),
  iniB K "NoZone" "name",
  clsB K,
  decide (PySem.W.exmOne K (.ref (He.ga K "NoZone")) (.ref (He.ga K "NoProgram")) = some false),
  decide (PySem.W.kitOne K (.ref (He.ga K "NoProgram")) (.ref (He.ga K "WhosedayError")) = some true),
  decide (PySem.W.kitOne K (.ref (He.ga K "NoZone")) (.ref (He.ga K "WhosedayError")) = some true)]
def q (K : PySem.W.Frag) : Bool := fas.all (fun f => f.ok K) && (tst K).all id
def fn0 : List He.DefD := ([glD "is_integer" (top i_is_integer) [] [],
  glD "is_name" (top i_is_name) [] [],
  glD "number_in" (top i_number_in) [.int 30] [],
  glD "entry_of" (top i_entry_of) [] [],
  glD "is_kind" (top i_is_kind) [] [],
  glD "_later" (top i__later) [] [],
  glD "_parts" (top i__parts) [] [],
  glD "is_rule" (top i_is_rule) [] [],
  glD "_is_day_rule" (top i__is_day_rule) [] [],
  glD "minutes_of" (top i_minutes_of) [] [],
  glD "clock_lead" (top i_clock_lead) [] [],
  glD "need_known" (top i_need_known) [] [],
  glD "clock" (top i_clock) [] [],
  glD "shown" (top i_shown) [] [],
  glD "minutes_held" (top i_minutes_held) [] [],
  glD "_copiers" (top i__copiers) [] [],
  glD "_days" (top i__days) [] [],
  glD "is_offset" (top i_is_offset) [] [],
  glD "read_parts" (top i_read_parts) [] [],
  glD "net_text" (top i_net_text) [] [],
  glD "_rule_lines" (top i__rule_lines) [] [],
  glD "_goals_by_start" (top i__goals_by_start) [] [],
  glD "_law_pen" (top i__law_pen) [] []] : List He.DefD)
def fn1 : List He.DefD := ([glD "_law_draw" (top i__law_draw) [] [],
  glD "_law_pick" (top i__law_pick) [] [],
  glD "_law_shuffled" (top i__law_shuffled) [] [],
  glD "_law_big" (top i__law_big) [] [],
  glD "_law_words" (top i__law_words) [] [],
  glD "_law_offset" (top i__law_offset) [] [],
  glD "_law_hours" (top i__law_hours) [] [],
  glD "_law_rules_for" (top i__law_rules_for) [] [],
  glD "_law_rule" (top i__law_rule) [] [],
  glD "_law_routes" (top i__law_routes) [] [],
  glD "_law_net" (top i__law_net) [] [],
  glD "_law_net_text" (top i__law_net_text) [] [],
  glD "_law_names" (top i__law_names) [] [],
  glD "_law_offset_of" (top i__law_offset_of) [] [],
  glD "_law_home" (top i__law_home) [] [],
  glD "_law_minute" (top i__law_minute) [] [],
  glD "_law_entry_of" (top i__law_entry_of) [] [],
  glD "_law_entry_text" (top i__law_entry_text) [] [],
  glD "_law_seen" (top i__law_seen) [] [],
  glD "_law_whole" (top i__law_whole) [] [],
  glD "_law_met" (top i__law_met) [] [],
  glD "_law_shows_right" (top i__law_shows_right) [] [],
  glD "_law_refused" (top i__law_refused) [] []] : List He.DefD)
def fn2 : List He.DefD := ([glD "law" (top i_law) [] [],
  meD "Entry" "__init__" "Entry.__init__" (inClass (top i_Entry) j_Entry___init__) [] [("digits", .int 30)],
  meD "Entry" "__eq__" "Entry.__eq__" (inClass (top i_Entry) j_Entry___eq__) [] [],
  meD "Entry" "__add__" "Entry.__add__" (inClass (top i_Entry) j_Entry___add__) [] [],
  meD "Entry" "__sub__" "Entry.__sub__" (inClass (top i_Entry) j_Entry___sub__) [] [],
  meD "Copier" "__init__" "Copier.__init__" (inClass (top i_Copier) j_Copier___init__) [] [],
  meD "Copier" "lead" "Copier.lead" (inClass (top i_Copier) j_Copier_lead) [] [],
  meD "Copier" "day" "Copier.day" (inClass (top i_Copier) j_Copier_day) [] [],
  meD "Parts" "__init__" "Parts.__init__" (inClass (top i_Parts) j_Parts___init__) [] [],
  meD "Parts" "take" "Parts.take" (inClass (top i_Parts) j_Parts_take) [] [],
  meD "Parts" "take_zone" "Parts.take_zone" (inClass (top i_Parts) j_Parts_take_zone) [] [],
  meD "Parts" "take_program" "Parts.take_program" (inClass (top i_Parts) j_Parts_take_program) [] [],
  meD "Parts" "take_rule" "Parts.take_rule" (inClass (top i_Parts) j_Parts_take_rule) [] [],
  meD "Parts" "take_route" "Parts.take_route" (inClass (top i_Parts) j_Parts_take_route) [] [],
  meD "Net" "__init__" "Net.__init__" (inClass (top i_Net) j_Net___init__) [] [],
  meD "Net" "__eq__" "Net.__eq__" (inClass (top i_Net) j_Net___eq__) [] [],
  meD "Net" "offset_of" "Net.offset_of" (inClass (top i_Net) j_Net_offset_of) [] [],
  meD "Net" "home_of" "Net.home_of" (inClass (top i_Net) j_Net_home_of) [] [],
  meD "Net" "_need_zone" "Net._need_zone" (inClass (top i_Net) j_Net__need_zone) [] [],
  meD "Net" "_need_program" "Net._need_program" (inClass (top i_Net) j_Net__need_program) [] [],
  meD "NoProgram" "__init__" "NoProgram.__init__" (inClass (top i_NoProgram) j_NoProgram___init__) [] [],
  meD "NoZone" "__init__" "NoZone.__init__" (inClass (top i_NoZone) j_NoZone___init__) [] []] : List He.DefD)
def fn : List He.DefD := fn0 ++ fn1 ++ fn2
def tf : List He.Defn := [("_law_refused", none)]
def ts : List He.Tab := [((fun K => He.ga K "RULES"), ["float", "zoned", "fixed"])]
abbrev R : PySem.W.OpenRow := PySem.W.OpenLaw.row PySem.Challenge.rw_whoseday_k05_clocks_and_days_are_shown
end Wd
end
section
set_option Elab.async false
set_option linter.all false
set_option maxRecDepth 100000
set_option maxHeartbeats 0
namespace Wd
open PySem PySem.Spec PyProof.Rows L2
def asL : List Addr := ([3, 6, 4, 21, 31, 51, 70, 89, 98, 105, 113, 114, 153, 164, 171, 178, 185, 186, 187, 197, 204, 249, 260, 267, 274, 281, 288, 295, 302, 309, 361, 372, 379, 384, 389, 546, 555, 562, 569, 576] : List Addr) ++ ([583, 590, 595, 602, 609, 616, 623, 628, 633, 638, 643, 648, 653, 660, 667, 674, 681, 688, 695, 702, 707, 714, 0, 20, 30, 50, 69, 88, 97, 104, 112, 106, 152, 163, 170, 177, 184, 188, 189, 190] : List Addr) ++ ([196, 203, 248, 259, 266, 273, 280, 287, 294, 301, 308, 360, 371, 378, 383, 388, 545, 554, 561, 568, 575, 582, 589, 594, 601, 608, 615, 622, 627, 632, 637, 642, 647, 652, 659, 666, 673, 680, 687, 694] : List Addr) ++ ([701, 706, 713, 15, 16, 17, 18, 19, 29, 32, 48, 49, 67, 68, 86, 87, 92, 93, 94, 95, 96, 99, 100, 101, 102, 103, 107, 108, 109, 110, 111, 129, 136, 143, 150, 151, 154, 155, 158, 159] : List Addr) ++ ([160, 161, 162, 165, 166, 167, 168, 169, 172, 173, 174, 175, 176, 179, 180, 181, 182, 183, 191, 192, 193, 194, 195, 198, 199, 200, 201, 202, 218, 225, 232, 239, 246, 247, 250, 251, 254, 255, 256, 257] : List Addr) ++ ([258, 261, 262, 263, 264, 265, 268, 269, 270, 271, 272, 275, 276, 277, 278, 279, 282, 283, 284, 285, 286, 289, 290, 291, 292, 293, 296, 297, 298, 299, 300, 303, 304, 305, 306, 307, 323, 330, 337, 344] : List Addr) ++ ([351, 358, 359, 362, 363, 366, 367, 368, 369, 370, 373, 374, 375, 376, 377, 380, 381, 382, 385, 386, 387, 403, 410, 417, 424, 431, 438, 445, 452, 459, 466, 473, 480, 487, 494, 501, 508, 515, 522, 529] : List Addr) ++ ([536, 543, 544, 547, 548, 551, 552, 553, 556, 557, 558, 559, 560, 563, 564, 565, 566, 567, 570, 571, 572, 573, 574, 577, 578, 579, 580, 581, 584, 585, 586, 587, 588, 591, 592, 593, 596, 597, 598, 599] : List Addr) ++ ([600, 603, 604, 605, 606, 607, 610, 611, 612, 613, 614, 617, 618, 619, 620, 621, 624, 625, 626, 629, 630, 631, 634, 635, 636, 639, 640, 641, 644, 645, 646, 649, 650, 651, 654, 655, 656, 657, 658, 661] : List Addr) ++ ([662, 663, 664, 665, 668, 669, 670, 671, 672, 675, 676, 677, 678, 679, 682, 683, 684, 685, 686, 689, 690, 691, 692, 693, 696, 697, 698, 699, 700, 703, 704, 705, 708, 709, 710, 711, 712, 47, 66, 85] : List Addr) ++ ([128, 122, 135, 142, 149, 217, 224, 231, 238, 245, 322, 329, 336, 343, 350, 357, 402, 409, 416, 423, 430, 437, 444, 451, 458, 465, 472, 479, 486, 493, 500, 507, 514, 521, 528, 535, 542, 42, 43, 44] : List Addr) ++ ([45, 46, 61, 62, 63, 64, 65, 80, 81, 82, 83, 84, 123, 124, 125, 126, 127, 130, 131, 132, 133, 134, 137, 138, 139, 140, 141, 144, 145, 146, 147, 148, 212, 213, 214, 215, 216, 219, 220, 221] : List Addr) ++ ([222, 223, 226, 227, 228, 229, 230, 233, 234, 235, 236, 237, 240, 241, 242, 243, 244, 317, 318, 319, 320, 321, 324, 325, 326, 327, 328, 331, 332, 333, 334, 335, 338, 339, 340, 341, 342, 345, 346, 347] : List Addr) ++ ([348, 349, 352, 353, 354, 355, 356, 397, 398, 399, 400, 401, 404, 405, 406, 407, 408, 411, 412, 413, 414, 415, 418, 419, 420, 421, 422, 425, 426, 427, 428, 429, 432, 433, 434, 435, 436, 439, 440, 441] : List Addr) ++ ([442, 443, 446, 447, 448, 449, 450, 453, 454, 455, 456, 457, 460, 461, 462, 463, 464, 467, 468, 469, 470, 471, 474, 475, 476, 477, 478, 481, 482, 483, 484, 485, 488, 489, 490, 491, 492, 495, 496, 497] : List Addr) ++ ([498, 499, 502, 503, 504, 505, 506, 509, 510, 511, 512, 513, 516, 517, 518, 519, 520, 523, 524, 525, 526, 527, 530, 531, 532, 533, 534, 537, 538, 539, 540, 541] : List Addr)
abbrev hk : PySem.W.Hook := hookU asL q fn ts tf
def ob (s : PySem.W.SharedT) : He.AlX := seeU asL q fn ts tf (HandSHeadRun.getT s)
theorem ob_eq (s : PySem.W.SharedT) : ob s = hk.obs s.abs := seeU_eq (HandSHeadRun.getT_eq s)
noncomputable abbrev endW (w : World) (os : OsState) := HandSHeadRun.endF (HandSHeadRun.stepQ (HandSHeadRun.denQ HandSHeadRun.tabQ) R.prog w) 12000 R.prog w os
abbrev KK (s : PySem.W.SharedT) : PySem.W.Frag := He.frG (HandSHeadRun.getT s) asL
theorem glue {x : Option PySem.W.SharedT} {l : PySem.W.SharedT → Bool} {β : Type} {se : PySem.W.SharedT → β} {g : β} {w : World}
    (a : x.map (fun s => (l s, se s)) = some (true, g)) (d : x.map (fun s => ob s) = some (hk.val w)) :
    x.map (fun s => (l s, se s, ob s)) = some (true, g, hk.val w) := by
  cases x with
  | none => cases a
  | some s =>
    have a' := Option.some.inj a
    have d' : ob s = hk.val w := Option.some.inj d
    have a1 : l s = true := congrArg Prod.fst a'
    have a2 : se s = g := congrArg Prod.snd a'
    show some (l s, se s, ob s) = some (true, g, hk.val w)
    rw [a1, a2, d']; rfl
end Wd
end
section
set_option Elab.async false
set_option linter.all false
set_option maxRecDepth 100000
set_option maxHeartbeats 0
namespace Wd
open PySem PySem.Spec PyProof.Rows L2
theorem runAf (w : World) (os : OsState) : (endW (w.withFollow "special-get-raises" false) os).map (fun s => (HandSHeadRun.looksF R.prog (PySem.W.boot_heap (w.withFollow "special-get-raises" false).params) s.abs, HandSHeadRun.seenQ (PySem.W.view R.prog [76]) names (importedModules R.prog.main.body) (fun s => PySem.W.xlAt (PySem.W.view R.prog [76]) [] s && PySem.W.recOk R.toRowW.records s) s.abs)) = some (true, PySem.W.openGood (PySem.W.view R.prog [76]) names) := by kernel_rfl
end Wd
end
section
set_option Elab.async false
set_option linter.all false
set_option maxRecDepth 100000
set_option maxHeartbeats 0
namespace Wd
open PySem PySem.Spec PyProof.Rows L2
theorem runBf (w : World) (os : OsState) : (endW (w.withFollow "special-get-raises" false) os).map (fun s => ob s) = some (hk.val (w.withFollow "special-get-raises" false)) := by kernel_rfl
end Wd
end
section
set_option Elab.async false
set_option linter.all false
set_option maxRecDepth 100000
set_option maxHeartbeats 0
namespace Wd
open PySem PySem.Spec PyProof.Rows L2
theorem runAt (w : World) (os : OsState) : (endW (w.withFollow "special-get-raises" true) os).map (fun s => (HandSHeadRun.looksF R.prog (PySem.W.boot_heap (w.withFollow "special-get-raises" true).params) s.abs, HandSHeadRun.seenQ (PySem.W.view R.prog [76]) names (importedModules R.prog.main.body) (fun s => PySem.W.xlAt (PySem.W.view R.prog [76]) [] s && PySem.W.recOk R.toRowW.records s) s.abs)) = some (true, PySem.W.openGood (PySem.W.view R.prog [76]) names) := by kernel_rfl
end Wd
end
section
set_option Elab.async false
set_option linter.all false
set_option maxRecDepth 100000
set_option maxHeartbeats 0
namespace Wd
open PySem PySem.Spec PyProof.Rows L2
theorem runBt (w : World) (os : OsState) : (endW (w.withFollow "special-get-raises" true) os).map (fun s => ob s) = some (hk.val (w.withFollow "special-get-raises" true)) := by kernel_rfl
end Wd
end
section
set_option Elab.async false
set_option linter.all false
set_option maxRecDepth 100000
set_option maxHeartbeats 0
namespace Wd
open PySem PySem.Spec PyProof.Rows L2
theorem run (w : World) : HandSHeadRun.RunEq R (PySem.W.view R.prog [76]) hk ob 12000 names w :=
  PySem.W.byRow2 "special-get-raises" (P := fun w => HandSHeadRun.RunEq R (PySem.W.view R.prog [76]) hk ob 12000 names w)
    (fun w os => glue (runAf w os) (runBf w os)) (fun w os => glue (runAt w os) (runBt w os)) w
end Wd
end
section
set_option Elab.async false
set_option linter.all false
set_option maxRecDepth 100000
set_option maxHeartbeats 2000000
set_option pp.maxSteps 900
/-! Lambdas that are kept: made as values, laid into lists, called later from a comprehension. -/
namespace Wd
open PySem PySem.Spec PyProof.Rows L2 LamX
/-- a kept function: its object is told -/
def FunO (f : Addr) (o : Obj) : HO := .ext fun h => h.get? f = some o
theorem FunO.ne {f : Addr} {o : Obj} (ps : Array Value) : FunO f o ≠ .tbl ps := fun z => by
  unfold FunO at z
  cases z
theorem FunO.put {P : Program} {w : World} {H : Hp} {h : Heap} {f : Addr} {o : Obj} (e : h.get? f = some o) : ObjOk P w H h f (FunO f o) := ⟨e, ⟨o, e⟩, fun _ _ a st => st _ a⟩
/-- the object of a lambda of the code object c' that is made within X -/
def lamO (X : Cx) (params : Arguments) (body : Expr) (scope : Scope) (pm : Value) (c' : Addr) (ctv : Value) : Obj :=
  PySem.W.kla_obj "<lambda>" (X.env.qual ++ "<lambda>") params body scope (cloFrom X.env.cells scope.names []) pm c' ctv
/-- a table stays one -/
theorem TabS.extN {H H' : Hp} {P c : Addr} {q : Str} {ps : Array Value} {pos : Pos} (t : TabS H P q) (h0 : H P = some (.tbl ps)) (e : ExtN H H') (h1 : H' P = some (.tbl (ps ++ #[rawInt pos.line, rawInt pos.col, .ref c]))) (hc : H' c = some (CodeO c q)) : TabS H' P q := by
  obtain ⟨ps', a1, a2, a3⟩ := t
  rw [h0] at a1
  cases a1
  have eL : (ps ++ #[rawInt pos.line, rawInt pos.col, .ref c]).toList = ps.toList ++ [rawInt pos.line, rawInt pos.col, .ref c] := by simp
  refine ⟨_, h1, by rw [eL]; exact PySem.TriplesOk_snoc _ _ _ _ a2, fun p' cv hcv => ?_⟩
  rw [eL] at hcv
  rcases among_app _ a2 hcv with z | z
  · obtain ⟨c0, e1, e2⟩ := a3 p' cv z
    exact ⟨c0, e1, e _ _ e2 codeO_ne⟩
  · exact ⟨c, z, hc⟩
section
variable {X : Cx} {pins : List (Addr × Obj)} {σ : L2.St} {H : Hp} {s : Shared}
/-- the lambda is made and kept -/
theorem lam_kept {T : List (Addr × Str)} {c P : Addr} {params : Arguments} {body : Expr} {scope : Scope} {pos : Pos} {E : Value → Shared → Prop} {Q : Value → Shared → Prop} (I : Inv X pins σ H s) (TB : TabB X.base X.mg c P) (hcode : X.env.code = .ref c)
    (hm : (P, X.env.qual ++ "<lambda>") ∈ T) (hu : ∀ p ∈ T, p.1 = P → p.2 = X.env.qual ++ "<lambda>") (hT : Tabs T H) (hdef : defaultsOf params X.env = ([], [])) (hfree : ∀ y ∈ scope.names, y.2 = .free → ∃ c, X.env.cells.lookup y.1 = some c)
    (go : ∀ (f c' : Addr) (pm ctv : Value) (H1 : Hp) (s' : Shared), Inv X pins σ H1 s' → ExtN H H1 → (∀ b, H1 b = none → H b = none) → Tabs T H1 → H f = none → H1 f = some (FunO f (lamO X params body scope pm c' ctv)) → H1 c' = some (CodeO c' (X.env.qual ++ "<lambda>")) → Q (.ref f) s') :
    wpAny (model X.prog X.w) X.A (eval (.Lambda params body scope pos) X.env) Q E s := by
  obtain ⟨ps, tab, tri, among⟩ := hT _ hm
  have tabI : s.heap.get? P = some { cls := .none, data := .fields ps } := I.hok P _ tab
  have bltP : s.heap.BuiltinsAt X.mg P := TB.bm.keeps I.bk
  -- the function's object laid over a heap in which its code object is known
  have lay : ∀ {H1 : Hp} {h' : Heap} {tk : Tok} (c' : Addr) (pm ctv : Value), Inv X pins σ H1 { s with heap := h', toks := tk } → s.heap.objs.size ≤ h'.objs.size → ExtN H H1 → (∀ b, H1 b = none → H b = none) → Tabs T H1 → H1 c' = some (CodeO c' (X.env.qual ++ "<lambda>")) →
      Q (.ref h'.objs.size) { s with heap := h'.push (lamO X params body scope pm c' ctv), toks := tk } := fun {H1 h' tk} c' pm ctv J le ex dom tabs code => by
    have none1 : H1 h'.objs.size = none := J.hok.fresh (Nat.le_refl _)
    have K := J.laid (a := h'.objs.size) (o := FunO h'.objs.size (lamO X params body scope pm c' ctv)) (h' := h'.push (lamO X params body scope pm c' ctv)) (t' := tk) (fun b u e => Heap.get?_push_of_some _ e) (Nat.le_refl _) (FunO.put (Heap.get?_push_size _ rfl))
    have up : ∀ b u, H1 b = some u → upd H1 h'.objs.size (FunO h'.objs.size (lamO X params body scope pm c' ctv)) b = some u := fun b u e => by
      rw [upd_ne (ne_of_none e none1)]
      exact e
    exact go h'.objs.size c' pm ctv _ _ K (ex.trans (ExtN.of up)) (fun b nb => dom b (by
      cases z : H1 b with
      | none => rfl
      | some u => rw [up b u z] at nb; cases nb)) (Tabs.ext tabs up) (I.hok.fresh le) upd_same (up _ _ code)
  refine PySem.W.kla_eval hdef ?_
  cases found : codeAmong pos ps.toList with
  | some cv =>
    obtain ⟨c', e, known⟩ := among pos cv found
    subst e
    refine PySem.W.kla_makeFunctionHit (mg := X.mg) (c := c) (P := P) (ps := ps) (closure_ok hfree) I.ok.glob (I.mod.glob.keeps I.bk) hcode (TB.code.keeps I.bk) tabI tri found bltP fun ctv h' tk kp le => ?_
    exact lay c' _ ctv (I.kept (t' := tk) kp) le (ExtN.refl H) (fun _ z => z) hT known
  | none =>
    refine PySem.W.kla_makeFunction (mg := X.mg) (c := c) (P := P) (ps := ps) (closure_ok hfree) I.ok.glob (I.mod.glob.keeps I.bk) hcode (TB.code.keeps I.bk) tabI tri found TB.gP bltP fun c' ctv h' tk but ge lt rcd at_ => ?_
    obtain ⟨c2, oc, vs, t, e2, g1, g2, g3⟩ := rcd
    cases e2
    have new : H c' = none := I.hok.fresh ge
    have J := inv_table (t' := tk) (more := #[rawInt pos.line, rawInt pos.col, .ref c']) (q := X.env.qual ++ "<lambda>") I tab but at_ ge ⟨oc, vs, t, g1, g2, g3⟩
    have ex : ExtN H (upd (upd H P (.tbl (ps ++ #[rawInt pos.line, rawInt pos.col, .ref c']))) c' (CodeO c' (X.env.qual ++ "<lambda>"))) := fun b o e n => by
      rw [upd_ne (ne_of_none e new), upd_ne fun z => n ps (Option.some.inj (by rw [← e, z]; exact tab))]
      exact e
    refine lay c' _ ctv J (Nat.le_trans ge (Nat.le_of_lt lt)) ex (fun b nb => ?_) (fun p hp => ?_) upd_same
    · by_cases e1 : b = c'
      · rw [e1]; exact new
      · rw [upd_ne e1] at nb
        by_cases e2 : b = P
        · rw [e2, upd_same] at nb; cases nb
        · rw [upd_ne e2] at nb; exact nb
    by_cases hb : p.1 = P
    · have t0 := hT p hp
      rw [hu p hp hb, hb] at t0 ⊢
      exact TabS.extN (pos := pos) t0 tab ex (by rw [upd_ne (ne_of_none tab new), upd_same]) upd_same
    · obtain ⟨ps', a1, a2, a3⟩ := hT p hp
      refine ⟨ps', by rw [upd_ne (ne_of_none a1 new), upd_ne hb]; exact a1, a2, fun p' cv hcv => ?_⟩
      obtain ⟨c0, e1, e2⟩ := a3 p' cv hcv
      exact ⟨c0, e1, ex _ _ e2 codeO_ne⟩
end
/-- the reading of a lambda that is kept -/
def tLamV (X : Cx) (T : List (Addr × Str)) (params : Arguments) (body : Expr) (scope : Scope) : TE := fun _ H Q => Tabs T H ∧ ∀ (f c' : Addr) (pm ctv : Value) (H1 : Hp), ExtN H H1 → (∀ b, H1 b = none → H b = none) → Tabs T H1 → H f = none → H1 f = some (FunO f (lamO X params body scope pm c' ctv)) → H1 c' = some (CodeO c' (X.env.qual ++ "<lambda>")) → Q (.ref f) H1
theorem pe_lamV {X : Cx} {T : List (Addr × Str)} {c P : Addr} {params : Arguments} {body : Expr} {scope : Scope} {pos : Pos} (TB : TabB X.base X.mg c P) (hcode : X.env.code = .ref c) (hm : (P, X.env.qual ++ "<lambda>") ∈ T) (hu : ∀ p ∈ T, p.1 = P → p.2 = X.env.qual ++ "<lambda>")
    (L : LamS X.env.scope scope) (hdef : defaultsOf params X.env = ([], [])) : PE X (.Lambda params body scope pos) (tLamV X T params body scope) :=
  ⟨fun pins s σ H Q I h => lam_kept I TB hcode hm hu h.1 hdef (L.has I.ok) fun f c' pm ctv H1 s' I1 ex dom tabs nf of oc => ⟨.ref f, H1, I1, rfl, h.2 f c' pm ctv H1 ex dom tabs nf of oc⟩⟩
end Wd
end
section
set_option Elab.async false
set_option linter.all false
set_option maxRecDepth 100000
set_option maxHeartbeats 2000000
set_option pp.maxSteps 900
/-! A list comprehension whose element may call kept lambdas: the maker's slots are known as they stand when it begins. -/
namespace Wd
open PySem PySem.Spec PyProof.Rows L2 LamX
/-- the maker's slots at the beginning of a block, its iterator's objects at fp -/
structure BlkAt (X : Cx) (pins : List (Addr × Obj)) (σ : L2.St) (H : Hp) (s : Shared) (fp : List Addr) : Prop where
  inv : Inv X pins σ H s
  own : ∀ b ∈ fp, FpOk X pins H b
/-- within the block the maker's slots are as they were -/
theorem BlkAt.now {X : Cx} {pins pins' : List (Addr × Obj)} {σ σ' : L2.St} {H H' : Hp} {s s' : Shared} {fp : List Addr} {scope : Scope} {ce : Env} (B : BlkAt X pins σ H s fp) (J : Inv (X.blk s H scope ce fp) pins' σ' H' s') : Inv X pins σ H' s' :=
  B.inv.call' (ch := fp) J.os J.base J.hok J.bare fun b hb => let z := B.own b hb; ⟨z.2.2.2.1, z.2.1, z.2.2.2.2.1, z.2.2.2.2.2⟩
section
variable {X : Cx}
theorem lcK_core {pins : List (Addr × Obj)} {s : Shared} {σ : L2.St} {H : Hp} {Q : VK} {elt tg iter : Expr} {scope : Scope} {own : List (Str × Nat)} {pos pos' : Pos} {wi : TI} {g : TG} {te : TE} {use : Option (Value → Sem Unit)} {Qf : Value → Shared → Prop}
    (calm : X.calm = true) (nd : X.N.Nodup) (I : Inv X pins σ H s) (hi : PI X tg iter wi) (ok : BlkOk X.N X.env.scope scope own)
    (hg : ∀ (s : Shared) (H : Hp) (C : Addr) (cl : List (Str × Addr)) (fp : List Addr), PG (X.blk s H scope (compEnvC scope cl C X.env) fp) tg g)
    (he : ∀ (pins : List (Addr × Obj)) (s : Shared) (H : Hp) (C : Addr) (cl : List (Str × Addr)) (fp : List Addr), BlkAt X pins σ H s fp → PE (X.blk s H scope (compEnvC scope cl C X.env) fp) elt te) (hs : ∀ x, foldedSetIterable iter X.env x = pure x)
    (h : tLc wi g tYes te (own.map (·.2)) σ H Q)
    (back : ∀ D C s' m H', Inv X pins σ H' s' → Q (.ref D) H' → s'.heap.Ns C m → FpOk X pins H' C → compPost (model X.prog X.w) X.A X.xe use Qf (.ref D) C (.ok .next) s') :
    wpAny (model X.prog X.w) X.A (comprehension (.ListComp elt [⟨tg, iter, [], 0⟩] scope pos) scope X.env pos' (newList []) false (eval iter X.env) use) Qf X.xe s := by
  have caught : ∀ y ∈ scope.names, y.2 = .free → ∃ c, X.env.cells.lookup y.1 = some c := fun y hy e => (ok.free y hy e).elim (fun k => I.ok.has _ (.inl k)) fun k => I.ok.has _ (.inr k)
  refine wpAny_comprehension_free (use := use) rfl hs (closure_ok caught) ok.kind (fun y hy e => by rw [ok.uniq y hy, e]) (thn (hi.run pins s σ H _ I h) fun xv s1 got => thn got fun itv s2 got2 => ?_)
  obtain ⟨it, fp, tn, J, Hi, rfl, Ii, T, sti, fi, q⟩ := got2
  refine wpAny_newObj_type (newEnv_comp ?_) (by show 0 ≤ sizeLine; decide)
  -- the list that grows
  obtain ⟨D, eD⟩ : ∃ D, D = s2.heap.objs.size := ⟨_, rfl⟩
  rw [← eD]
  have noD : Hi D = none := Ii.hok.fresh (Nat.le_of_eq eD.symm)
  obtain ⟨W, ⟨m0, w0⟩, turn⟩ := q D noD
  generalize esl : ({ s2 with heap := s2.heap.push { cls := .type "list", data := .seq ([] : List Value).toArray } } : Shared) = sl
  have hsl : sl.heap = s2.heap.push { cls := .type "list", data := .seq ([] : List Value).toArray } := by rw [← esl]
  have Il : Inv X pins σ (upd Hi D (.lst [])) sl := by
    rw [← esl]
    refine Ii.laid (t' := s2.toks) (fun b o e => Heap.get?_push_of_some _ e) (Nat.le_of_eq eD.symm) ⟨Nat.zero_le _, [], 0, .nil, ?_⟩
    rw [eD]
    exact Heap.get?_push_size _ rfl
  have small : ∀ b ∈ fp, b < s2.heap.objs.size := fun b hb => let ⟨o, e, _⟩ := T.obj _ _ sti b hb; Heap.lt_size e
  have fl : ∀ b ∈ fp, FpOk X pins (upd Hi D (.lst [])) b ∧ b < sl.heap.objs.size := fun b hb =>
    ⟨⟨by rw [upd_ne (by rw [eD]; exact Nat.ne_of_lt (small b hb))]; exact (fi b hb).1, (fi b hb).2⟩, by rw [hsl, Heap.size_push]; exact Nat.lt_succ_of_lt (small b hb)⟩
  have stl : tn 0 sl.heap := T.keep _ _ _ sti fun b _ o e => by
    rw [hsl]
    exact Heap.get?_push_of_some _ e
  have Ib := block_start Il ok nd fl
  have pg := hg sl (upd Hi D (.lst [])) sl.heap.objs.size (cellsFrom (sl.heap.objs.size + 1) scope.names (cloFrom X.env.cells scope.names [])) fp
  have pe := he pins sl (upd Hi D (.lst [])) sl.heap.objs.size (cellsFrom (sl.heap.objs.size + 1) scope.names (cloFrom X.env.cells scope.names [])) fp ⟨Il, fun b hb => (fl b hb).1⟩
  show codeAny _ _ (.compStart (.ListComp elt [⟨tg, iter, [], 0⟩] scope pos) 0 (.ref it) (.ref D) (compEnvC scope (cellsFrom (sl.heap.objs.size + 1) scope.names (cloFrom X.env.cells scope.names [])) sl.heap.objs.size X.env)) (compPost (model X.prog X.w) X.A X.xe use Qf (.ref D) sl.heap.objs.size) { sl with heap := pushCells (sl.heap.push { cls := .type "dict", data := .dict #[] }) scope.names }
  have nofp : ∀ b ∈ fp, (upd Hi D (.lst [])) b = none := fun b hb => (fl b hb).1.1
  generalize ece : compEnvC scope (cellsFrom (sl.heap.objs.size + 1) scope.names (cloFrom X.env.cells scope.names [])) sl.heap.objs.size X.env = ce at Ib pg pe ⊢
  have locC : ce.locals = sl.heap.objs.size := by
    subst ece
    rfl
  generalize upd Hi D (.lst []) = Hl at Il Ib pg pe w0 nofp fl
  generalize esb : ({ sl with heap := pushCells (sl.heap.push { cls := .type "dict", data := .dict #[] }) scope.names } : Shared) = sb at Ib ⊢
  have stb : tn 0 sb.heap := T.keep _ _ _ stl fun b _ o e => by
    rw [← esb]
    exact pushCells_keeps _ _ _ _ (Heap.get?_push_of_some _ e)
  have stat : ∀ {σ' : L2.St} {H' : Hp} {s' : Shared}, Inv (X.blk sl Hl scope ce fp) [] σ' H' s' → (∀ b ∈ fp, H' b = none) → ∀ b ∈ fp, FpOk (X.blk sl Hl scope ce fp) [] H' b := fun {σ' H' s'} K n b hb =>
    ⟨n b hb, (K.ok.exf b hb).1, K.ok.exfs b hb, .inl hb, fun x c e => (K.ok.exf b hb).2 x c e, fun p hp => by simp at hp⟩
  have loop : codeAny (model X.prog X.w) X.A (.compLoop (.ListComp elt [⟨tg, iter, [], 0⟩] scope pos) 0 (.ref it) (.ref D) ce) (compPost (model X.prog X.w) X.A X.xe use Qf (.ref D) sl.heap.objs.size) sb := by
    refine compLoop_any (fun n s' => ∃ i H', Inv (X.blk sl Hl scope ce fp) [] (wipe σ (own.map (·.2))) H' s' ∧ tn i s'.heap ∧ (∀ b ∈ fp, H' b = none) ∧ W i n H') ?_ m0 ⟨0, Hl, Ib, stb, nofp, w0⟩
    rintro n s5 ⟨i, H5, I5, st5, n5, w5⟩
    rcases turn i n H5 w5 with ⟨stop, qq⟩ | ⟨goes, Nx, less, step⟩
    · refine thnF (T.done (X.blk sl Hl scope ce fp) rfl rfl rfl calm i [] s5 _ H5 (fun _ _ => False) I5 (stat I5 n5) st5 stop) fun r s6 ⟨hr, I6⟩ => ?_
      subst hr
      have I7 : Inv X pins σ H5 s6 := BlkAt.now ⟨Il, fun b hb => (fl b hb).1⟩ I6
      have nC : H5 sl.heap.objs.size = none := by
        rw [← locC]
        exact I6.free
      obtain ⟨m, hn, _⟩ := I6.loc
      refine back D sl.heap.objs.size s6 m H5 I7 qq ?_ (Il.fpOk (Nat.le_refl _) nC)
      rw [← locC]
      exact hn
    · refine thnF (T.item (X.blk sl Hl scope ce fp) rfl rfl rfl calm i [] s5 _ H5 (fun _ _ => False) I5 (stat I5 n5) st5 goes) fun r s6 ⟨u, hr, next⟩ => ?_
      subst hr
      refine thnF next fun _ s7 ⟨x, H7, I7, r7, y7, st7, n7⟩ => ?_
      refine thnF (pg.run _ s7 _ H7 x u _ (I7.pinned (stat I7 n7) (T.obj _ _ st7)) r7 (step x H7 y7)) fun _ s8 ⟨σ8, H8, I8, same8, q8⟩ => ?_
      refine thnF ((pts_nil (X := X.blk sl Hl scope ce fp)).run _ s8 σ8 H8 _ I8 q8) fun b s9 ⟨H9, I9, q9⟩ => ?_
      have fin : ∀ {s' : Shared} {H' : Hp}, Inv (X.blk sl Hl scope ce fp) ([] ++ pinsAt fp s7.heap) σ8 H' s' → Nx H' → ∃ m, m < n ∧ ∃ i H', Inv (X.blk sl Hl scope ce fp) [] (wipe σ (own.map (·.2))) H' s' ∧ tn i s'.heap ∧ (∀ b ∈ fp, H' b = none) ∧ W i m H' := fun {s' H'} K nx => by
        obtain ⟨m', lt, w'⟩ := less H' nx
        have kept : ∀ b ∈ fp, ∀ o, s7.heap.get? b = some o → s'.heap.get? b = some o ∧ H' b = none := fun b hb o e =>
          let z := K.pin (b, o) (List.mem_append_right _ (List.mem_append_right _ (mem_pinsAt hb e)))
          ⟨z.1, z.2.1⟩
        refine ⟨m', lt, i + 1, H', (K.unpinned (pins := [])).weak (by rw [← same8, wipe_length]) (fun j v e => ?_), T.keep _ _ _ st7 fun b hb o e => (kept b hb o e).1, fun b hb => ?_, w'⟩
        · rw [← same8] at e
          exact (wipe_some e).1
        · obtain ⟨o, e, _⟩ := T.obj _ _ st7 b hb
          exact (kept b hb o e).2
      cases b with
      | false => exact fin I9 q9
      | true =>
        have q9 : te σ8 H9 fun y H4 => ∃ acc, H4 D = some (.lst acc) ∧ acc.length < sizeLine ∧ Nx (upd H4 D (.lst (acc ++ [y]))) := q9
        refine thnF (pe.run _ s9 σ8 H9 _ I9 q9) fun z s10 ⟨yv, H10, I10, r10, acc, hD10, hz10, nx⟩ => ?_
        exact app_ok (X := X.blk sl Hl scope ce fp) I10 hD10 hz10 r10 fun s11 I11 => fin I11 nx
  exact codeAny_compStart_list loop (T.self X.A 0 _ _ _ stb loop)
/-- [.. for .. in ..], its element told by the maker's slots at the beginning -/
theorem pe_lcK {elt tg iter : Expr} {scope : Scope} {own : List (Str × Nat)} {pos : Pos} {wi : TI} {g : TG} {te : L2.St → TE} (calm : X.calm = true) (nd : X.N.Nodup) (hi : PI X tg iter wi) (ok : BlkOk X.N X.env.scope scope own)
    (hg : ∀ (s : Shared) (H : Hp) (C : Addr) (cl : List (Str × Addr)) (fp : List Addr), PG (X.blk s H scope (compEnvC scope cl C X.env) fp) tg g)
    (he : ∀ (σ : L2.St) (pins : List (Addr × Obj)) (s : Shared) (H : Hp) (C : Addr) (cl : List (Str × Addr)) (fp : List Addr), BlkAt X pins σ H s fp → PE (X.blk s H scope (compEnvC scope cl C X.env) fp) elt (te σ)) (hs : ∀ x, foldedSetIterable iter X.env x = pure x := by intro _; rfl) :
    PE X (.ListComp elt [⟨tg, iter, [], 0⟩] scope pos) (fun σ H Q => tLc wi g tYes (te σ) (own.map (·.2)) σ H Q) := by
  refine ⟨fun pins s σ H Q I h => ?_⟩
  rw [eval_ListComp]
  refine lcK_core calm nd I hi ok hg (he σ) hs h fun D C s' m H' K q hn f => ⟨m, hn, fun h'' sb => ?_⟩
  exact ⟨.ref D, H', K.turned (t' := s'.toks) (fun b o hb e => (sb.2 b hb).trans e) f.1 f.2.1 f.2.2.2.1 f.2.2.2.2.1 f.2.2.2.2.2, rfl, q⟩
end
end Wd
end
section
set_option Elab.async false
set_option linter.all false
set_option maxRecDepth 100000
set_option maxHeartbeats 2000000
set_option pp.maxSteps 600
/-! try: .. except A as e: .. except B as e: .. (several clauses, each with a name) -/
namespace Wd
open PySem PySem.Spec PyProof.Rows L2
/-- what the clauses wish, one after the other; slot i is the name's -/
def wManyAs (K : PySem.W.Frag) (i : Nat) (Wout : WX) (D : Ends) : List (Value × (Addr → Value → Option Addr → TS)) → WX
  | [] => Wout
  | (c, ts) :: r => wAs K c i ts (wManyAs K i Wout D r) D
inductive HdsAs (X : Cx) (i : Nat) (n : Str) : List ExceptHandler → List (Value × (Addr → Value → Option Addr → TS)) → Prop
  | nil : HdsAs X i n [] []
  | cons {x : Str} {c : Value} {ts : Addr → Value → Option Addr → TS} {b₀ : Stmt} {suite : List Stmt} {np pos' : Pos} {hds : List ExceptHandler} {l : List (Value × (Addr → Value → Option Addr → TS))} (hc : Names X x c)
      (hsu : ∀ (a : Addr) (oe : Obj) (cls : Value) (d : Option Addr) (pn : List (Addr × Obj)), Zc cls d oe → (∃ vs, oe.data = .fields vs) → PSs (X.suite a ((a, oe) :: pn)) (b₀ :: suite) (ts a cls d)) (r : HdsAs X i n hds l) :
      HdsAs X i n (.ExceptHandler (some (.Name x np)) (some n) (b₀ :: suite) pos' :: hds) ((c, ts) :: l)
section
variable {X : Cx} {n : Str} {i : Nat} {body : List Stmt} {h₀ : ExceptHandler} {hds : List ExceptHandler} {l : List (Value × (Addr → Value → Option Addr → TS))} {pos : Pos} {tb : WX → TS} {Wout : WX}
theorem ps_try_manyAs (hs : X.stack = X.env :: X.outer) (hf : X.env.frame = some X.env.locals) (hN : X.N.Nodup) (hi : X.N[i]? = some n) (hln : X.env.kindOf n = some .local) (tk : Takes X Wout)
    (hb : ∀ (W : WX) (pn : List (Addr × Obj)) (xe : Value → Shared → Prop), Takes (X.tr pn xe) W → PassesOwn (model X.prog X.w) X.A X.env xe → PSs (X.tr pn xe) body (tb W))
    (hh : HdsAs X i n (h₀ :: hds) l) : PS X (.Try body (h₀ :: hds) [] [] pos) (fun D σ H => tb (wManyAs X.K i Wout D l) D σ H) := by
  refine ⟨fun pins s σ H D I h => ?_⟩
  have ok := I.ok
  have hfr : X.A.frames = some (X.env :: X.outer) := by rw [ok.frames, hs]
  have hloc : Loc X.env.scope n := .inl hln
  refine wpAny_Try_except ?_
  refine wpAny_mono ((hb (wManyAs X.K i Wout D l) (X.pn ++ pins) (fun e s₁ => wpAny (model X.prog X.w) X.A (noteFrame e X.env) (fun _ s₂ => wpAny (model X.prog X.w) X.A (setFlight e none) (fun _ s₃ =>
    wpAny (model X.prog X.w) X.A (handleBy e X.env (h₀ :: hds)) (SP X pins D) X.xe s₃) X.xe s₂) X.xe s₁) (fun u s' xx => ?_) PassesOwn.looking).run [] s σ H D (I.toTry _) h) (fun f s1 hsp => ?_) (fun e s1 he => he)
  · -- the catch
    obtain ⟨a, B, sI, pins', σ', H', cls, d, rfl, J', nb, up, sky, na, os, ag, w⟩ := xx
    have J : Inv X pins σ' H' sI := J'.ofTry ok
    have sky' : Sky B (X.env :: X.outer) a (Zc cls d) X.env.locals s'.heap := by rw [← hs]; exact sky
    show wpAny (model X.prog X.w) X.A (noteFrame (.ref a) X.env) _ _ _
    refine Sky.land Zc.steady hfr hf sky' fun h3 fl3 up3 => ?_
    have J3 : Inv X pins σ' H' { s' with heap := h3 } := J.landed nb fl3.1 (up.trans up3) os ag
    obtain ⟨oe3, vs3, he3, hz3, hd3⟩ := fl3.there
    have notFr : ∀ {h : Heap} {o : Obj} {vs : Array Value}, h.FunFrames B (X.env :: X.outer) → h.get? a = some o → o.data = .fields vs → a ∉ frs (X.env :: X.outer) := fun {h o vs} ff e dd hm => by
      obtain ⟨_, o', e', hnf⟩ := ff.mem hm
      rw [e] at e'; cases e'
      exact hnf _ dd
    have nfr := notFr fl3.2.2.1 he3 hd3
    have nL : a ≠ X.env.locals := fun z => nfr (List.mem_filterMap.mpr ⟨X.env, List.mem_cons_self, by rw [hf, z]⟩)
    have nF : a ∉ X.fs := fun hm => by
      obtain ⟨e, he, q⟩ := List.mem_filterMap.mp hm
      exact nfr (List.mem_filterMap.mpr ⟨e, List.mem_cons_of_mem _ he, q⟩)
    have S3 := J3.suite he3 hd3 na nL nF
    have go : ∀ {hds' : List ExceptHandler} {l' : List (Value × (Addr → Value → Option Addr → TS))}, HdsAs X i n hds' l' → wManyAs X.K i Wout D l' cls d σ' H' →
        wpAny (model X.prog X.w) X.A (handleBy (.ref a) X.env hds') (SP X pins D) X.xe { s' with heap := h3 } := by
      intro hds' l' hk
      induction hk with
      | nil =>
        intro w
        refine wpAny_handleBy_nil ?_
        obtain ⟨k1, k2, k3, oe, vs, T, oT, ts', he, hz, hd, h1, hr⟩ := id fl3
        unfold PySem.passOn
        refine wpAny_bind (wpAny_field he hd h1 ?_)
        rw [if_neg (show ¬ ((Value.ref T == Value.none) = true) from by simp)]
        have fin : wpAny (model X.prog X.w) X.A (setFlight (.ref a) X.env.frame) (fun _ s4 => wpAny (model X.prog X.w) X.A (throw (.ref a) : Sem Flow) (SP X pins D) X.xe s4) X.xe { s' with heap := h3 } := by
          rw [hf]
          refine HandSPX.setFlight_upZ fl3 fun h4 hh4 up4 => wpAny_throw (tk _ _ ?_)
          exact ⟨a, B, sI, pins, σ', H', cls, d, rfl, J, nb, (up.trans up3).trans up4, .inr (.inr (by rw [hs]; exact hh4)), na, os, ag, w⟩
        first
          | exact wpAny_bind (wpAny_pure (wpAny_bind fin))
          | exact wpAny_bind fin
      | @cons x c ts b₀ suite np pos' hds2 l2 hc hsu r ih =>
        intro w
        obtain ⟨b, hb1, hyes, hno⟩ := w
        refine wpAny_handleBy_cons (codeAny_handlers_test ?_) (by intro q; cases q)
        have LT : PySem.W.Looks (model X.prog X.w) h3 (typeOf (.ref a)) cls := fun A Q E s k q => wpAny_typeOf_ref (k _ _ he3) (by rw [hz3.1]; exact q)
        have LM := PySem.W.exm_one (M := model X.prog X.w) (J3.kIn) LT hb1
        have test : ∀ {Q : Value → Shared → Prop} {E : Value → Shared → Prop}, Q c { s' with heap := h3 } → wpAny (model X.prog X.w) (X.A.mark (some (.ref a))) (eval (.Name x np) X.env) Q E { s' with heap := h3 } := fun {Q E} q => by
          obtain ⟨hg, hdbg, hm | ⟨hm, hv, hnn⟩⟩ := hc
          · exact ld_glob (X := X.suite a ((a, oe3) :: (X.pn ++ pins))) S3 hg hm q hdbg
          · exact ld_blt (X := X.suite a ((a, oe3) :: (X.pn ++ pins))) S3 hg hm hv q hnn hdbg
        refine test (LM.here ?_)
        cases b with
        | true =>
          refine codeAny_handlers_suite_as ?_
          refine HandSPX.lands_againZ fl3 fun h4 fl4 up4 => ?_
          have J4 : Inv X pins σ' H' { s' with heap := h4 } := J.landed nb fl4.1 ((up.trans up3).trans up4) os ag
          obtain ⟨oe4, vs4, he4, hz4, hd4⟩ := fl4.there
          have S4 := J4.suite he4 hd4 na nL nF
          refine store_ok (X := X.suite a ((a, oe4) :: (X.pn ++ pins))) (v := .ref a) S4 hN hi hloc rfl (fun s5 S5 => ?_) (.inr hln)
          refine wpAny_mono ((hsu a oe4 cls d (X.pn ++ pins) hz4 ⟨_, hd4⟩).run [] s5 _ H' _ S5 (hyes rfl a na)) (fun f s6 hsp => ?_) (fun _ _ z => False.elim z)
          have end_ : ∀ {σ6 : L2.St} {H6 : Hp} {Q : Shared → Prop}, Inv (X.suite a ((a, oe4) :: (X.pn ++ pins))) [] σ6 H6 s6 → (∀ s7, Inv X pins (σ6.set i none) H6 s7 → Q s7) →
              wpAny (model X.prog X.w) X.A (do bindName X.env n .none; unbindBehindTheSuite X.env n pos') (fun _ s7 => Q s7) X.xe s6 := fun {σ6 H6 Q} S6 hq => gone_ok (S6.unsuite ok) hN hi hln hq
          cases f with
          | next =>
            obtain ⟨σ6, H6, S6, q6⟩ := hsp
            exact end_ S6 fun s7 J7 => ⟨_, _, J7, q6⟩
          | brk =>
            obtain ⟨σ6, H6, S6, q6⟩ := hsp
            exact end_ S6 fun s7 J7 => ⟨_, _, J7, q6⟩
          | cont =>
            obtain ⟨σ6, H6, S6, q6⟩ := hsp
            exact end_ S6 fun s7 J7 => ⟨_, _, J7, q6⟩
          | ret u =>
            obtain ⟨v6, σ6, H6, S6, r6, q6⟩ := hsp
            exact end_ S6 fun s7 J7 => ⟨_, _, _, J7, r6, q6⟩
        | false =>
          show wpAny _ X.A (handleBy (.ref a) X.env hds2) _ _ _
          exact ih (hno rfl)
    exact go hh w
  · cases f with
    | next =>
      obtain ⟨σ', H', J', q⟩ := hsp
      exact wpAny_execs_nil ⟨σ', H', J'.ofTry ok, q⟩
    | brk =>
      obtain ⟨σ', H', J', q⟩ := hsp
      exact ⟨σ', H', J'.ofTry ok, q⟩
    | cont =>
      obtain ⟨σ', H', J', q⟩ := hsp
      exact ⟨σ', H', J'.ofTry ok, q⟩
    | ret u =>
      obtain ⟨v, σ', H', J', r, q⟩ := hsp
      exact ⟨v, σ', H', J'.ofTry ok, r, q⟩
/-- a wish for frames of n slots alone -/
theorem Takes.len {W : WX} {m : Nat} (tk : Takes X W) (hn : X.N.length = m) : Takes X (fun cls d σ H => σ.length = m → W cls d σ H) := fun u s' ⟨a, B, sI, pins, σ, H, cls, d, e, I, nb, up, sky, na, os, ag, w⟩ =>
  tk u s' ⟨a, B, sI, pins, σ, H, cls, d, e, I, nb, up, sky, na, os, ag, w (I.len.trans hn)⟩
end
section
open LamX
variable {X : Cx}
/-- what the called lambda lets out is wished at frames of n slots; the clauses l then answer -/
def TMet (K : PySem.W.Frag) (i n : Nat) (l : List (Value × (Addr → Value → Option Addr → TS))) : (XK → Hp → VK → Prop) → Hp → VK → Prop := fun tl H Q =>
  tl (fun cls d H' => ∀ σ : L2.St, σ.length = n → wManyAs K i (fun _ _ _ _ => False) { nx := fun _ H' => Q .non H', rt := Q } l cls d σ H') H Q
/-- try: return a() / except A as e: .. / except B as e: .. -/
theorem met_gives {Ng : List Str} {x a e q : Str} {sg : Scope} {g : Addr} {cdg : Value} {i n : Nat} {h₀ : ExceptHandler} {hds : List ExceptHandler} {l : List (Value × (Addr → Value → Option Addr → TS))} {p1 p2 p3 p8 : Pos}
    (hn : Ng.length = n) (hN : Ng.Nodup) (hi : Ng[i]? = some e) (hln : sg.names.lookup e = some .local) (h0 : ∀ f : Addr, (L2.start Ng [V.ref f])[0]? = some (some (V.ref f)))
    (hh : ∀ (s : Shared) (H : Hp), HdsAs (cxOf C8.CX0 X.prog X.w X.K X.mg X.base Ng x sg g cdg X.A X.stack s H C8.E0).nox i e (h₀ :: hds) l) :
    GivesTo X Ng x sg g cdg [.Try [.Return (some (.Call (.Name a p1) [] [] p2)) p3] (h₀ :: hds) [] [] p8] a q (TMet X.K i n l) := by
  intro f c' s H Q tl act hc h
  refine ⟨_, pss_one (ps_try_manyAs (X := (cxOf C8.CX0 X.prog X.w X.K X.mg X.base Ng x sg g cdg X.A X.stack s H C8.E0).nox) (n := e) (i := i) (Wout := fun _ _ _ _ => False)
      (tb := fun W D σ H => ∃ Ech : XK, (∀ cls d H', Ech cls d H' → ∀ σ' : L2.St, σ'.length = n → W cls d σ' H') ∧ σ[0]? = some (some (.ref f)) ∧ H c' = some (CodeO c' q) ∧ tl Ech H D.rt)
      rfl rfl hN hi hln L2.takes0 (fun W pn xe tk _ => ?_) (hh s H)), ?_⟩
  · refine ⟨fun pins s' σ H' D I h' => ?_⟩
    obtain ⟨Ech, hW, h1, h2, h3⟩ := h'
    have hp := act (fun cls d σ H => σ.length = n → W cls d σ H) pn xe Ech p1 p2 (Takes.len tk hn) fun cls d σ' H' z e => hW cls d H' z σ' e
    have hq := pss_one (ps_ret (pos := p3) hp)
    exact hq.run pins s' σ H' D I ⟨h1, h2, h3⟩
  · exact ⟨fun cls d H' => ∀ σ : L2.St, σ.length = n → wManyAs X.K i (fun _ _ _ _ => False) { nx := fun _ H' => Q .non H', rt := Q } l cls d σ H', fun cls d H' z σ' e => z σ' e, h0 f, hc, h⟩
end
end Wd
end
section
set_option Elab.async false
set_option linter.all false
set_option maxRecDepth 100000
set_option maxHeartbeats 1000000
namespace Wd
open PySem PySem.Spec PyProof.Rows L2
abbrev FnG (K : PySem.W.Frag) (x : Str) (i : Nat) (f : Addr) (fd : FuncData) : Prop := FunD K x x (defArgs (top i)) (defBody (top i)) (defScope (top i)) [] [] f fd
/-! ### the pen -/
def penD (l : Addr) (a b : Int) : List (Key × V) := [(Sum.inr "cells", .ref l), (Sum.inr "at", .int a), (Sum.inr "left", .int b)]
theorem k1 : ¬ (("cells" : Str) = "at") := by decide +kernel
theorem k2 : ¬ (("cells" : Str) = "left") := by decide +kernel
theorem k3 : ¬ (("at" : Str) = "left") := by decide +kernel
theorem j1 : ¬ ((Sum.inr ("cells" : Str) : Key) = Sum.inr ("at" : Str)) := fun z => k1 (Sum.inr.inj z)
theorem j2 : ¬ ((Sum.inr ("cells" : Str) : Key) = Sum.inr ("left" : Str)) := fun z => k2 (Sum.inr.inj z)
theorem j3 : ¬ ((Sum.inr ("at" : Str) : Key) = Sum.inr ("left" : Str)) := fun z => k3 (Sum.inr.inj z)
section
variable {l d : Addr} {a b x : Int} {H : Hp}
theorem pd_cells : valV (penD l a b) (Sum.inr "cells") = some (.ref l) := valV_pos rfl
theorem pd_at : valV (penD l a b) (Sum.inr "at") = some (.int a) := (valV_neg j1).trans (valV_pos rfl)
theorem pd_left : valV (penD l a b) (Sum.inr "left") = some (.int b) := (valV_neg j2).trans ((valV_neg j3).trans (valV_pos rfl))
theorem pp_at : putK (penD l a b) (Sum.inr "at") (.int x) = penD l x b := by
  simp [putK, penD, k1, Ne.symm k3]
theorem pp_left : putK (penD l a b) (Sum.inr "left") (.int x) = penD l a x := by
  simp [putK, penD, k2, k3]
theorem gt_cells (h : H d = some (.dK (penD l a b))) : DGet H d (.str "cells") (some (.ref l)) := by
  have z := DGet.k (k := Sum.inr "cells") h
  rw [pd_cells] at z
  exact z
theorem gt_at (h : H d = some (.dK (penD l a b))) : DGet H d (.str "at") (some (.int a)) := by
  have z := DGet.k (k := Sum.inr "at") h
  rw [pd_at] at z
  exact z
theorem gt_left (h : H d = some (.dK (penD l a b))) : DGet H d (.str "left") (some (.int b)) := by
  have z := DGet.k (k := Sum.inr "left") h
  rw [pd_left] at z
  exact z
theorem pt_at (h : H d = some (.dK (penD l a b))) : DPut H d (.str "at") (.int x) (upd H d (.dK (penD l x b))) := by
  have z := DPut.k (k := Sum.inr "at") (v := .int x) h (small1000 (show 3 ≤ 1000 by decide))
  rw [pp_at] at z
  exact z
theorem pt_left (h : H d = some (.dK (penD l a b))) : DPut H d (.str "left") (.int x) (upd H d (.dK (penD l a x))) := by
  have z := DPut.k (k := Sum.inr "left") (v := .int x) h (small1000 (show 3 ≤ 1000 by decide))
  rw [pp_left] at z
  exact z
end
theorem ifT {p : Prop} [Decidable p] {A B : Prop} (h : p) (a : A) : if decide p = true then A else B := by rw [if_pos (decide_eq_true h)]; exact a
theorem ifF {p : Prop} [Decidable p] {A B : Prop} (h : ¬ p) (b : B) : if decide p = true then A else B := by
  rw [decide_eq_false h, if_neg Bool.false_ne_true]
  exact b
theorem ifC {p : Prop} [Decidable p] {A B : Prop} (a : p → A) (b : ¬ p → B) : if decide p = true then A else B := by
  by_cases h : p
  · exact ifT h (a h)
  · exact ifF h (b h)
theorem cm1 (x y : Int) : CMul (x % 2147483629 + 1) y := .inl ⟨by omega, by omega⟩
theorem cm2 (x y : Int) : CMul (x % 2147483647) y := .inl ⟨by omega, by omega⟩
theorem cm3 (x y : Int) : CMul (x % 2147483587) y := .inl ⟨by omega, by omega⟩
/-- at d a pen over a list at l, with a next place -/
def Pen (H : Hp) (d l : Addr) (a : Int) : Prop :=
  ∃ (cs : List Int) (b : Int), H d = some (.dK (penD l a b)) ∧ H l = some (.lst (cs.map V.int)) ∧ cs.length ≤ 63 ∧ 0 ≤ b ∧ 0 ≤ a
/-- all but the pen's dict stands as before -/
def But (d : Addr) (H H' : Hp) : Prop := ∀ c o, H c = some o → c ≠ d → H' c = some o
theorem But.refl {d : Addr} {H : Hp} : But d H H := fun _ _ z _ => z
theorem But.trans {d : Addr} {H H1 H2 : Hp} (x : But d H H1) (y : But d H1 H2) : But d H H2 := fun c o z n => y c o (x c o z n) n
theorem But.same {d : Addr} {H H1 : Hp} (x : Same H H1) : But d H H1 := fun c o z _ => x c o z
theorem But.upd {d : Addr} {H : Hp} {o : HO} : But d H (upd H d o) := fun c u z n => by rw [upd_ne n]; exact z
def spPen (K : PySem.W.Frag) : Sp := fun vs H Q _ => ∃ (a : Addr) (ns : List Int), vs = [.ref a] ∧ SqL K H a (ns.map V.int) ∧ ns.length ≤ 63 ∧
  ∀ H' d l, Same H H' → H d = none → H l = none → Pen H' d l 0 → Q (.ref d) H'
def spDraw : Sp := fun vs H Q _ => ∃ (d l : Addr) (a n : Int), vs = [.ref d, .int n] ∧ Pen H d l a ∧ a ≤ 100000 ∧ 0 < n ∧ n < 1073741824 ∧
  ∀ r a' H', 0 ≤ r → r < n → a ≤ a' → a' ≤ a + 1 → Pen H' d l a' → But d H H' → Q (.int r) H'
def spPick (K : PySem.W.Frag) : Sp := fun vs H Q _ => ∃ (d l : Addr) (a : Int) (s : V), vs = [.ref d, s] ∧ Pen H d l a ∧ a ≤ 100000 ∧
  ((∃ t xs, s = .ref t ∧ t ≠ d ∧ H t = some (.lst xs) ∧ xs ≠ [] ∧ xs.length ≤ 1000 ∧ ∀ x a' H', x ∈ xs → a ≤ a' → a' ≤ a + 1 → Pen H' d l a' → But d H H' → Q x H') ∨
   ∃ z : Str, s = .str z ∧ z.cps.toList ≠ [] ∧ z.length ≤ 1000 ∧ ∀ c a' H', c ∈ z.cps.toList → a ≤ a' → a' ≤ a + 1 → Pen H' d l a' → But d H H' → Q (.str ⟨#[c]⟩) H')
structure TxtP (mg : Str → Option Value) : Prop where
  list : mg "list" = none
  int : mg "int" = none
  len : mg "len" = none
theorem dp_ints {K : PySem.W.Frag} {H : Hp} : ∀ cs : List Int, DpAll K H (cs.map V.int) (cs.map PyData.int)
  | [] => .nil
  | c :: r => .cons (.int c) (dp_ints r)
theorem shaped_ints0 (cs : List Int) : SeqAt.shaped (.list (cs.map PyData.int)) = true := PySem.W.ke_shaped_ints cs
theorem at_mod {cs : List Int} (h : cs ≠ []) (a : Int) : (0 : Int) < (cs.length : Int) ∧ ∃ c, atI (cs.map V.int) (a % (cs.length : Int)) = some (.int c) := by
  have pos : (0 : Int) < (cs.length : Int) := by
    have := List.length_pos_iff.mpr h
    omega
  obtain ⟨j, hj⟩ := Int.eq_ofNat_of_zero_le (Int.emod_nonneg a (show (cs.length : Int) ≠ 0 by omega))
  have lt := Int.emod_lt_of_pos a pos
  rw [hj] at lt ⊢
  have lt2 : j < cs.length := by omega
  refine ⟨pos, cs[j], atI_nat ?_⟩
  rw [List.getElem?_map, List.getElem?_eq_getElem lt2]
  rfl
theorem cut_ints (ns : List Int) (lo hi : Option Int) : ∃ cs : List Int, cutV (ns.map V.int) lo hi = cs.map V.int ∧ cs.length ≤ ns.length := by
  refine ⟨(ns.drop (HT.sIx (ns.map V.int).length 0 lo)).take (HT.sIx (ns.map V.int).length (ns.map V.int).length hi - HT.sIx (ns.map V.int).length 0 lo), ?_, ?_⟩
  · unfold cutV
    rw [List.map_take, List.map_drop]
  · rw [List.length_take, List.length_drop]
    omega
section
variable {P : Program} {w : World} {K : PySem.W.Frag} {mg : Str → Option Value} {base : Heap} {f : Addr} {fd : FuncData}
theorem scPen : FnScope ["_law_script"] ["_law_script"] (defScope (top i__law_pen)) := ⟨rfl, rfl, rfl, by decide +kernel, rfl, by decide +kernel, by decide +kernel⟩
theorem ok_pen (F : FnG K "_law_pen" i__law_pen f fd) (T : TxtP mg) : FnOk P w K mg base CX0 1 f fd ["_law_script"] (spPen K) := by
  refine F.ok scPen (fun vs H Q E h => ?_) (fun cdv A outer s H vs Q E hr h => ?_)
  · obtain ⟨a, ns, rfl, _⟩ := h
    rfl
  · obtain ⟨a, ns, rfl, hs, hl, k⟩ := h
    refine ⟨_, PSs.nox (pss_one (ps_ret (pe_disp (pps_cons pe_str (pe_callTy call_list_of (by rfl) T.list (by decide +kernel) (pa_cons (pe_slice sl_list (pv 0) po_none (po_some pe_int)) pa_nil))
      (pps_cons pe_str pe_int (pps_cons pe_str pe_int pps_nil))) (by rfl) (by rfl) (fun z => by cases z) (by decide)))), ?_⟩
    intro p hp
    have np : ∀ {c : Addr} {o : HO}, H c = some o → c ≠ p := fun z => ne_of_none z hp
    have h0 : Same H (upd H p (.dK [])) := fun c o z => by
      rw [upd_ne (np z)]
      exact z
    refine ⟨_, rfl, 63, rfl, a, _, rfl, h0.seq hs, fun s1 hs1 => ?_⟩
    refine ⟨s1, _, rfl, .inl (SqL.of upd_same), fun l hl1 => ?_⟩
    obtain ⟨cs, hc, hz⟩ := cut_ints ns none (some 63)
    rw [hc] at hl1
    rw [hc]
    have e1 : p ≠ s1 := ne_of_none upd_same hs1
    have e2 : p ≠ l := fun z => by
      rw [← z, upd_ne e1, upd_same] at hl1
      cases hl1
    have e3 : s1 ≠ l := ne_of_none upd_same hl1
    have nl : H l = none := by
      rw [upd_ne e3.symm, upd_ne e2.symm] at hl1
      exact hl1
    have ns1 : H s1 = none := by
      rw [upd_ne e1.symm] at hs1
      exact hs1
    refine ⟨by rw [upd_ne e2, upd_ne e1, upd_same], penD l 0 0, rfl, (show 3 ≤ 15 by decide), ?_⟩
    have em : mergeK [] (penD l 0 0) = penD l 0 0 := by
      simp [mergeK, penD, putK, k1, k2, k3]
    rw [em]
    refine k _ p l (fun c o z => ?_) hp nl ⟨cs, 0, upd_same, ?_, by omega, Int.le_refl 0, Int.le_refl 0⟩
    · rw [upd_ne (np z), upd_ne (ne_of_none z nl), upd_ne (ne_of_none z ns1), upd_ne (np z)]
      exact z
    · rw [upd_ne e2.symm, upd_same]
theorem scDraw : FnScope ["_law_pen_here", "_law_many", "_law_digit", "_law_spot", "_law_cell", "_law_mixed"] ["_law_pen_here", "_law_many"] (defScope (top i__law_draw)) := ⟨rfl, rfl, rfl, by decide +kernel, rfl, by decide +kernel, by decide +kernel⟩
theorem ok_draw (F : FnG K "_law_draw" i__law_draw f fd) (T : TxtP mg) : FnOk P w K mg base CX0 1 f fd ["_law_pen_here", "_law_many"] spDraw := by
  refine F.ok scDraw (fun vs H Q E h => ?_) (fun cdv A outer s H vs Q E hr h => ?_)
  · obtain ⟨d, l, a, n, rfl, _⟩ := h
    rfl
  · obtain ⟨d, l, a, n, rfl, ⟨cs, b, hd, hl, hz, hb, ha⟩, ha2, hn, hn2, k⟩ := h
    have hu := hu_of hr
    have hu64 := hr.units
    refine ⟨_, PSs.nox (pss_cons (ps_if (pt_cmpR op_ge (pe_dget hu (pv 0) pe_str (fun _ _ => rfl)) (pv 1) (nomark _)) (pss_cons (ps_set (i := 2) scDraw.nd rfl (Or.inl rfl) (pe_op op_mod (pe_callTy call_int1 (by rfl) T.int (by decide +kernel) (pa_cons (pe_dget hu (pv 0) pe_str (fun _ _ => rfl)) pa_nil)) (pv 1)))
        (pss_cons (ps_dput hu (pv 0) pe_str (pe_op op_fdiv (pe_dget hu (pv 0) pe_str (fun _ _ => rfl)) (pv 1)) rfl)
        (pss_one (ps_ret (pv 2))))) pss_nil)
        (pss_cons (ps_set (i := 3) scDraw.nd rfl (Or.inl rfl) (pe_dget hu (pv 0) pe_str (fun _ _ => rfl)))
        (pss_cons (ps_dput hu (pv 0) pe_str (pe_op op_add (pv 3) pe_int) rfl)
        (pss_cons (ps_set (i := 4) scDraw.nd rfl (Or.inl rfl) (pe_op op_add (pe_op op_mul pe_int (pv 3)) pe_int))
        (pss_cons (ps_if (pt_cmpR (op_neD hu64) (pe_dget hu (pv 0) pe_str (fun _ _ => rfl)) (pe_lst pa_nil) (nomark _)) (pss_one (ps_set (i := 4) scDraw.nd rfl (Or.inl rfl) (pe_ix ix_list (pe_dget hu (pv 0) pe_str (fun _ _ => rfl)) (pe_op op_mod (pe_callTy call_int1 (by rfl) T.int (by decide +kernel) (pa_cons (pv 3) pa_nil)) (pe_callB call_len (by rfl) T.len PySem.boot_len (pa_cons (pe_dget hu (pv 0) pe_str (fun _ _ => rfl)) pa_nil))) (fun _ _ => rfl)))) pss_nil)
        (pss_cons (ps_if (PW.pt (pw_and (pt_cmpR op_lt (pv 3) (pe_callB call_len (by rfl) T.len PySem.boot_len (pa_cons (pe_dget hu (pv 0) pe_str (fun _ _ => rfl)) pa_nil)) (nomark _)) (pw_and1 (pt_cmpR op_ge (pv 4) (pe_op op_pow pe_int pe_int) (nomark _))))) (pss_cons (ps_dput hu (pv 0) pe_str (pe_op op_fdiv (pe_op op_sub (pv 4) (pe_op op_pow pe_int pe_int)) (pv 1)) rfl)
        (pss_one (ps_ret (pe_op op_mod (pe_callTy call_int1 (by rfl) T.int (by decide +kernel) (pa_cons (pe_op op_sub (pv 4) (pe_op op_pow pe_int pe_int)) pa_nil)) (pv 1))))) pss_nil)
        (pss_cons (ps_set (i := 5) scDraw.nd rfl (Or.inl rfl) (pe_op op_add (pe_op op_add (pe_op op_mul (pe_op op_add (pe_op op_mod (pe_callTy call_int1 (by rfl) T.int (by decide +kernel) (pa_cons (pv 4) pa_nil)) pe_int) pe_int) (pe_op op_add (pe_op op_mul pe_int (pv 3)) pe_int)) (pe_op op_mul (pe_op op_mul pe_int (pv 3)) (pv 3))) pe_int))
        (pss_cons (ps_set (i := 5) scDraw.nd rfl (Or.inl rfl) (pe_op op_mod (pe_callTy call_int1 (by rfl) T.int (by decide +kernel) (pa_cons (pv 5) pa_nil)) pe_int))
        (pss_cons (ps_set (i := 5) scDraw.nd rfl (Or.inl rfl) (pe_op op_mod (pe_callTy call_int1 (by rfl) T.int (by decide +kernel) (pa_cons (pe_op op_mul (pv 5) (pe_op op_add (pv 5) pe_int)) pa_nil)) pe_int))
        (pss_cons (ps_set (i := 5) scDraw.nd rfl (Or.inl rfl) (pe_op op_mod (pe_callTy call_int1 (by rfl) T.int (by decide +kernel) (pa_cons (pe_op op_mul (pv 5) (pv 5)) pa_nil)) pe_int))
        (pss_one (ps_ret (pe_op op_mod (pe_callTy call_int1 (by rfl) T.int (by decide +kernel) (pa_cons (pe_op op_fdiv (pv 5) pe_int) pa_nil)) (pv 1)))))))))))))), ?_⟩
    refine ⟨_, rfl, d, _, rfl, gt_left hd, _, rfl, _, _, rfl, rfl, _, rfl, ?_⟩
    by_cases hc : n ≤ b
    · refine ifT hc ?_
      refine ⟨_, rfl, d, _, rfl, gt_left hd, .inl ⟨b, rfl, ?_⟩⟩
      refine ⟨_, rfl, b, n, rfl, rfl, hn, ?_⟩
      refine ⟨_, rfl, d, _, rfl, gt_left hd, _, rfl, b, n, rfl, rfl, ⟨hn, hn2⟩, ?_⟩
      refine ⟨_, rfl, d, _, rfl, pt_left hd, ?_⟩
      refine ⟨_, rfl, ?_⟩
      have dl : l ≠ d := ne_of hl hd (by intro z; cases z)
      exact k _ a _ (Int.emod_nonneg b (by omega)) (Int.emod_lt_of_pos b hn) (Int.le_refl a) (by omega)
        ⟨cs, b / n, upd_same, by rw [upd_ne dl]; exact hl, hz, Int.ediv_nonneg hb (by omega), ha⟩ But.upd
    · refine ifF hc ?_
      have dl : l ≠ d := ne_of hl hd (by intro z; cases z)
      refine ⟨_, rfl, d, _, rfl, gt_at hd, ?_⟩
      refine ⟨_, rfl, a, 1, rfl, rfl, _, rfl, d, _, rfl, pt_at hd, ?_⟩
      refine ⟨_, rfl, 37, a, rfl, rfl, .inl ⟨by decide, by decide⟩, _, _, rfl, rfl, ?_⟩
      refine ⟨_, rfl, d, _, rfl, gt_cells upd_same, Nat.zero_le _, fun p hp => ?_⟩
      have hl1 : upd H d (.dK (penD l (a + 1) b)) l = some (.lst (cs.map V.int)) := by rw [upd_ne dl]; exact hl
      have lp : l ≠ p := ne_of_none hl1 hp
      have dp : d ≠ p := ne_of_none upd_same hp
      have h2l : upd (upd H d (.dK (penD l (a + 1) b))) p (.lst []) l = some (.lst (cs.map V.int)) := by rw [upd_ne lp]; exact hl1
      have h2d : upd (upd H d (.dK (penD l (a + 1) b))) p (.lst []) d = some (.dK (penD l (a + 1) b)) := by rw [upd_ne dp, upd_same]
      have h2b : But d H (upd (upd H d (.dK (penD l (a + 1) b))) p (.lst [])) := fun c o z n => by
        have z1 : upd H d (.dK (penD l (a + 1) b)) c = some o := by rw [upd_ne n]; exact z
        rw [upd_ne (ne_of_none z1 hp)]
        exact z1
      refine ⟨_, _, .lst (SqL.of h2l) (dp_ints cs), .lst (SqL.of upd_same) .nil, shaped_ints0 cs, shaped_ints0 [], _, rfl, ?_⟩
      generalize upd (upd H d (.dK (penD l (a + 1) b))) p (.lst []) = H2 at h2l h2d h2b ⊢
      have out : ∀ (r b' : Int), 0 ≤ r → r < n → 0 ≤ b' → Q (.int r) (upd H2 d (.dK (penD l (a + 1) b'))) := fun r b' r0 rn b0 =>
        k r (a + 1) _ r0 rn (by omega) (Int.le_refl _) ⟨cs, b', upd_same, by rw [upd_ne dl]; exact h2l, hz, b0, by omega⟩ (h2b.trans But.upd)
      have out2 : ∀ (r : Int), 0 ≤ r → r < n → Q (.int r) H2 := fun r r0 rn =>
        k r (a + 1) _ r0 rn (by omega) (Int.le_refl _) ⟨cs, b, h2d, h2l, hz, hb, by omega⟩ h2b
      by_cases hcs : cs = []
      all_goals first
        | (have hcs0 : cs = [] := hcs
           rw [show (!PyData.eqv (.list (cs.map PyData.int)) (.list [])) = false from by rw [hcs]; rfl]
           refine iteF ?_)
        | (rw [show (!PyData.eqv (.list (cs.map PyData.int)) (.list [])) = true from by
             obtain ⟨c0, cr, rfl⟩ := List.exists_cons_of_ne_nil hcs
             rfl]
           refine iteT ?_
           obtain ⟨pos, c, at_⟩ := at_mod hcs a
           refine ⟨_, rfl, d, _, rfl, gt_cells h2d, _, rfl, .inl ⟨a, rfl, _, rfl, d, _, rfl, gt_cells h2d, _, cs.length, rfl, .inl ⟨_, SqL.of h2l, by rw [List.length_map]⟩, _, _, rfl, rfl, pos, l, _, _, _, rfl, rfl, SqL.of h2l, at_, ?_⟩⟩)
      all_goals
        refine ⟨_, rfl, _, rfl, d, _, rfl, gt_cells h2d, _, cs.length, rfl, .inl ⟨_, SqL.of h2l, by rw [List.length_map]⟩, _, _, rfl, rfl, _, rfl, ?_⟩
        refine ifC (fun hlt => ?_) (fun hlt => ?_)
      all_goals first
        | (refine ⟨_, rfl, 10, 18, rfl, rfl, ⟨by decide, by decide, by decide⟩, _, _, rfl, rfl, _, rfl, ?_⟩
           refine ifC (fun hge => ?_) (fun hge => ?_))
        | refine iteF ?_
      all_goals first
        | (refine ⟨_, rfl, 10, 18, rfl, rfl, ⟨by decide, by decide, by decide⟩, _, _, rfl, rfl, _, rfl, _, _, rfl, rfl, ⟨hn, hn2⟩, _, rfl, d, _, rfl, pt_left h2d, ?_⟩
           refine ⟨_, rfl, 10, 18, rfl, rfl, ⟨by decide, by decide, by decide⟩, _, _, rfl, rfl, .inl ⟨_, rfl, _, rfl, _, _, rfl, rfl, hn, ?_⟩⟩
           exact out _ _ (Int.emod_nonneg _ (by omega)) (Int.emod_lt_of_pos _ hn) (Int.ediv_nonneg (Int.sub_nonneg_of_le hge) (by omega)))
        | (refine ⟨_, rfl, .inl ⟨_, rfl, _, _, rfl, rfl, (show (0 : Int) < 2147483629 by decide), _, _, rfl, rfl, _, rfl, _, _, rfl, rfl, .inl ⟨by decide, by decide⟩, _, _, rfl, rfl, _, _, rfl, rfl, cm1 _ _,
             _, rfl, _, _, rfl, rfl, .inl ⟨by decide, by decide⟩, _, rfl, _, _, rfl, rfl, .inl ⟨by omega, by omega⟩, _, _, rfl, rfl, _, _, rfl, rfl, ?_⟩⟩
           refine ⟨_, rfl, .inl ⟨_, rfl, _, _, rfl, rfl, (show (0 : Int) < 2147483647 by decide), ?_⟩⟩
           refine ⟨_, rfl, _, rfl, _, _, rfl, rfl, _, _, rfl, rfl, cm2 _ _, .inl ⟨_, rfl, _, _, rfl, rfl, (show (0 : Int) < 2147483587 by decide), ?_⟩⟩
           refine ⟨_, rfl, _, rfl, _, _, rfl, rfl, cm3 _ _, .inl ⟨_, rfl, _, _, rfl, rfl, (show (0 : Int) < 2147483563 by decide), ?_⟩⟩
           refine ⟨_, rfl, _, _, rfl, rfl, ⟨by decide, by decide⟩, .inl ⟨_, rfl, _, rfl, _, _, rfl, rfl, hn, ?_⟩⟩
           exact out2 _ (Int.emod_nonneg _ (by omega)) (Int.emod_lt_of_pos _ hn))
end
end Wd
end
section
set_option Elab.async false
set_option linter.all false
set_option maxRecDepth 100000
set_option maxHeartbeats 1000000
namespace Wd
open PySem PySem.Spec PyProof.Rows L2
/-- a def of the text: what it keeps, under its name -/
structure Df (P : Program) (w : World) (K : PySem.W.Frag) (mg : Str → Option Value) (base : Heap) (CX : CXT) (k : Nat) (x : Str) (ps : List Str) (sp : Sp) : Prop where
  ex : ∃ f fd, FnOk P w K mg base CX k f fd ps sp ∧ mg x = some (.ref f) ∧ PySem.W.keepIn K (.ref f) = true ∧ Binds K fd ps []
section
variable {X : Cx} {CX : CXT} {k : Nat} {x : Str} {ps : List Str} {sp : Sp} {E : XK} {e : Expr} {es : List Expr} {t : TA} {p pos : Pos}
theorem pe_cd (D : Df X.prog X.w X.K X.mg X.base CX k x ps sp) (hr : Room k X.A) (hx : Passes CX X E) (ha : PA X (e :: es) t) (hg : Gl X x := by rfl)
    (hdb : (x == ("__debug__" : Str)) = false := by decide)
    (he : starEach (e :: es) X.env = (false, eval e X.env) :: starEach es X.env := by rfl) (hpl : (backTo pos (starEach es X.env)).any (·.1) = false := by rfl) :
    PE X (.Call (.Name x p) (e :: es) [] pos) (tCall sp [] E t) := by
  obtain ⟨f, fd, G, hm, hk, hb⟩ := D.ex
  exact pe_call G hr hg hm hk hb .nil hx ha hdb he hpl
end
section
variable {P : Program} {w : World} {K : PySem.W.Frag} {mg : Str → Option Value} {base : Heap} {f : Addr} {fd : FuncData}
theorem same_upd {H : Hp} {a : Addr} {o : HO} (ha : H a = none) : Same H (upd H a o) := fun b z hb => by
  rw [upd_ne (ne_of_none hb ha)]
  exact hb
theorem Pen.same {d l : Addr} {a : Int} {H H' : Hp} (s : Same H H') (h : Pen H d l a) : Pen H' d l a := by
  obtain ⟨cs, b, h1, h2, h3⟩ := h
  exact ⟨cs, b, s _ _ h1, s _ _ h2, h3⟩
theorem scPick : FnScope ["_law_pen_here", "_law_some"] ["_law_pen_here", "_law_some"] (defScope (top i__law_pick)) := ⟨rfl, rfl, rfl, by decide +kernel, rfl, by decide +kernel, by decide +kernel⟩
theorem ok_pick (F : FnG K "_law_pick" i__law_pick f fd) (T : TxtP mg) (Dd : Df P w K mg base CX0 1 "_law_draw" ["_law_pen_here", "_law_many"] spDraw) : FnOk P w K mg base CX0 2 f fd ["_law_pen_here", "_law_some"] (spPick K) := by
  refine F.ok scPick (fun vs H Q E h => ?_) (fun cdv A outer s H vs Q E hr h => ?_)
  · obtain ⟨d, l, a, s, rfl, _⟩ := h
    rfl
  · obtain ⟨d, l, a, v, rfl, hp, ha, h⟩ := h
    refine ⟨_, PSs.nox (pss_one (ps_ret (pe_ix ix_seq (pv 1) (pe_cd Dd (hr.mono (by decide)) pass0 (pa_cons (pv 0) (pa_cons (pe_callB call_len (by rfl) T.len PySem.boot_len (pa_cons (pv 1) pa_nil)) pa_nil))) (fun _ _ => rfl)))), ?_⟩
    rcases h with ⟨t, xs, rfl, td, ht, hx, hz, k⟩ | ⟨z, rfl, hx, hz, k⟩
    · have pos : 0 < xs.length := List.length_pos_iff.mpr hx
      refine ⟨_, rfl, _, rfl, _, rfl, _, xs.length, rfl, .inl ⟨_, SqL.of ht, rfl⟩, d, l, a, xs.length, rfl, hp, ha, by omega, by omega, fun r a' H1 r0 rn g1 g2 p1 b1 => ?_⟩
      obtain ⟨j, hj⟩ := Int.eq_ofNat_of_zero_le r0
      subst hj
      have lt : j < xs.length := by omega
      exact .inl ⟨t, xs, _, _, rfl, rfl, SqL.of (b1 t _ ht td), atI_nat (List.getElem?_eq_getElem lt), k _ a' H1 (List.getElem_mem lt) g1 g2 p1 b1⟩
    · have pos : 0 < z.cps.toList.length := List.length_pos_iff.mpr hx
      have ez : z.length = z.cps.toList.length := by simp [Str.length]
      refine ⟨_, rfl, _, rfl, _, rfl, _, z.length, rfl, ⟨by rw [sizeLine_eq]; omega, rfl⟩, d, l, a, z.length, rfl, hp, ha, by omega, by omega, fun r a' H1 r0 rn g1 g2 p1 b1 => ?_⟩
      obtain ⟨j, hj⟩ := Int.eq_ofNat_of_zero_le r0
      subst hj
      have lt : j < z.cps.toList.length := by omega
      exact .inr (.inr ⟨z, _, _, rfl, rfl, by rw [sizeLine_eq]; omega, atI_nat (List.getElem?_eq_getElem lt), k _ a' H1 (List.getElem_mem lt) g1 g2 p1 b1⟩)
end
end Wd
end
section
set_option Elab.async false
set_option linter.all false
set_option maxRecDepth 100000
set_option maxHeartbeats 4000000
/-! Numbers and names in texts. -/
namespace Wt
open PySem TL NumText Builtin.Str PySem.StrLaws
/-- the figures of a word: without a sign - ahead -/
def figL : List Nat → List Nat
  | [] => []
  | c :: r => if c = 45 then r else c :: r
def fig (x : Str) : Str := Txt.removeprefix x "-"
theorem dash : tl ("-" : Str) = [45] := by decide +kernel
theorem zero1 : tl ("0" : Str) = [48] := by decide +kernel
theorem fig_tl (x : Str) : tl (fig x) = figL (tl x) := by
  have hx := len_tl x
  have e : subAt x "-" 0 = true ↔ ∃ r, tl x = 45 :: r := by
    rw [subAt_eq, List.drop_zero, show ("-" : Str).length = 1 from by decide +kernel]
    show ((tl x).take 1 == tl ("-" : Str)) = true ↔ _
    rw [dash]
    cases h : tl x with
    | nil => simp
    | cons c r => simp
  unfold fig Txt.removeprefix
  by_cases h : subAt x "-" 0 = true
  · obtain ⟨r, hr⟩ := e.mp h
    rw [if_pos h]
    have hl : x.length = r.length + 1 := by rw [hx, hr, List.length_cons]
    rw [show ("-" : Str).length = 1 from by decide +kernel]
    show tl (if (x.length - 1 == x.length) = true then x else strSub x 1 x.length) = _
    rw [if_neg (by rw [beq_iff_eq]; omega), tl_strSub_end, hr]
    simp [figL]
  · rw [if_neg h]
    unfold Txt.affix
    cases hr : tl x with
    | nil => rfl
    | cons c r =>
      have hc : c ≠ 45 := fun z => h (e.mpr ⟨r, by rw [hr, z]⟩)
      simp [figL, hc]
def isDig (c : Nat) : Bool := decide (48 ≤ c) && decide (c ≤ 57)
theorem dig128 : ∀ c : Nat, c < 128 → Unicode.isDigit c = isDig c := by decide +kernel
theorem alp128 : ∀ c : Nat, c < 128 → (Unicode.isAlpha c && !(Unicode.isUpper c || Unicode.isTitle c)) = (decide (97 ≤ c) && decide (c ≤ 122)) := by decide +kernel
theorem low128 : ∀ c : Nat, c < 128 → Unicode.isLower c = (decide (97 ≤ c) && decide (c ≤ 122)) := by decide +kernel
theorem all_tl {x : Str} {p : Nat → Bool} : x.cps.all p = (tl x).all p := by rw [← Array.all_toList] <;> rfl
theorem any_tl {x : Str} {p : Nat → Bool} : x.cps.any p = (tl x).any p := by rw [← Array.any_toList] <;> rfl
theorem pos_tl {x : Str} : (decide (x.length > 0)) = !(tl x).isEmpty := by
  rw [len_tl]
  cases tl x <;> simp
theorem digits_ok (f : Str) : (Txt.isascii f && Txt.isdigit f) = true ↔ tl f ≠ [] ∧ AllDigits (tl f) := by
  unfold Txt.isascii Txt.isdigit AllDigits
  rw [all_tl, all_tl, pos_tl]
  simp only [Bool.and_eq_true, List.all_eq_true, decide_eq_true_eq, Bool.not_eq_true', List.isEmpty_eq_false_iff]
  constructor
  · rintro ⟨h1, h2, h3⟩
    refine ⟨h2, fun c hc => ?_⟩
    have := h3 c hc
    rw [dig128 c (h1 c hc)] at this
    simpa [isDig] using this
  · rintro ⟨h1, h2⟩
    refine ⟨fun c hc => ?_, h1, fun c hc => ?_⟩
    · have := h2 c hc
      omega
    · have := h2 c hc
      rw [dig128 c (by omega)]
      simpa [isDig] using this
/-- a word of 1 to 12 letters -/
def nameL (l : List Nat) : Prop := l ≠ [] ∧ l.length ≤ 12 ∧ ∀ c ∈ l, 97 ≤ c ∧ c ≤ 122
theorem names_ok (z : Str) : (Txt.isascii z && (Txt.isalpha z && Txt.islower z)) = true ↔ tl z ≠ [] ∧ ∀ c ∈ tl z, 97 ≤ c ∧ c ≤ 122 := by
  unfold Txt.isascii Txt.isalpha Txt.islower
  rw [all_tl, all_tl, any_tl, any_tl, pos_tl]
  simp only [Bool.and_eq_true, List.all_eq_true, List.any_eq_true, decide_eq_true_eq, Bool.not_eq_true', List.isEmpty_eq_false_iff, List.any_eq_false]
  constructor
  · rintro ⟨h1, ⟨h2, h3⟩, _, h5⟩
    refine ⟨h2, fun c hc => ?_⟩
    have a1 := h3 c hc
    have a2 := h5 c hc
    have a3 := alp128 c (h1 c hc)
    rw [a1] at a3
    have a4 : (Unicode.isUpper c || Unicode.isTitle c) = false := by
      cases e : (Unicode.isUpper c || Unicode.isTitle c) with
      | false => rfl
      | true => exact absurd e a2
    rw [a4] at a3
    have a5 : (decide (97 ≤ c) && decide (c ≤ 122)) = true := a3.symm
    simpa using a5
  · rintro ⟨h1, h2⟩
    have key : ∀ c ∈ tl z, c < 128 ∧ (decide (97 ≤ c) && decide (c ≤ 122)) = true := fun c hc => by
      have := h2 c hc
      exact ⟨by omega, by simpa using this⟩
    refine ⟨fun c hc => (key c hc).1, ⟨h1, fun c hc => ?_⟩, ?_, fun c hc => ?_⟩
    · have a3 := alp128 c (key c hc).1
      rw [(key c hc).2] at a3
      exact (Bool.and_eq_true_iff.mp a3).1
    · obtain ⟨c, r, e⟩ := List.exists_cons_of_ne_nil h1
      have hc : c ∈ tl z := by rw [e]; exact List.mem_cons_self
      exact ⟨c, hc, by rw [low128 c (key c hc).1]; exact (key c hc).2⟩
    · have a3 := alp128 c (key c hc).1
      rw [(key c hc).2] at a3
      have a4 := (Bool.and_eq_true_iff.mp a3).2
      intro e
      rw [e] at a4
      cases a4
/-! ### numbers -/
theorem num_fold : ∀ (cs : List Nat) (a : Nat), 0 < a → AllDigits cs → numL (cs.foldl (fun acc c => acc * 10 + (c - 48)) a) = numL a ++ cs
  | [], a, _, _ => by rw [List.foldl_nil, List.append_nil]
  | c :: r, a, ha, h => by
    have hc := h.head
    rw [List.foldl_cons, num_fold r _ (by omega) h.tail, numL_step (by omega)]
    rw [show (a * 10 + (c - 48)) / 10 = a by omega, show 48 + (a * 10 + (c - 48)) % 10 = c by omega]
    rw [List.append_assoc]
    rfl
/-- figures without a 0 ahead of others -/
def canonL (l : List Nat) : Prop := l ≠ [] ∧ AllDigits l ∧ (l.head? = some 48 → l = [48])
theorem canon_num {l : List Nat} (h : canonL l) : numL (digitsVal l) = l := by
  obtain ⟨h1, h2, h3⟩ := h
  cases l with
  | nil => exact absurd rfl h1
  | cons c r =>
    have hc := h2.head
    by_cases z : c = 48
    · subst z
      have e := h3 rfl
      rw [e]
      decide +kernel
    · unfold digitsVal
      rw [List.foldl_cons, num_fold r _ (by omega) h2.tail, numL_lt (by omega)]
      rw [show 48 + (0 * 10 + (c - 48)) = c by omega]
      rfl
theorem canon_pos {l : List Nat} (h : canonL l) (hz : l ≠ [48]) : 0 < digitsVal l := by
  cases e : digitsVal l with
  | zero =>
    have z := canon_num h
    rw [e] at z
    exact absurd z.symm (by
      have : numL 0 = [48] := by decide +kernel
      rw [this]
      exact hz)
  | succ n => omega
theorem num_canon (n : Nat) : canonL (numL n) := by
  refine ⟨numL_ne n, numL_digits n, ?_⟩
  induction n using Nat.strongRecOn with
  | _ n ih =>
    by_cases h : n < 10
    · rw [numL_lt h]
      intro z
      simp only [List.head?_cons, Option.some.injEq] at z
      rw [z]
    · rw [numL_step (by omega)]
      intro z
      have hne := numL_ne (n / 10)
      obtain ⟨c, r, e⟩ := List.exists_cons_of_ne_nil hne
      rw [e] at z
      have z2 := ih (n / 10) (by omega) (by rw [e]; exact z)
      have z3 : n / 10 = 0 := numL_inj (z2.trans (by decide +kernel))
      omega
def strI (n : Int) : Str := Str.ofString (toString n)
theorem str_nat (n : Nat) : tl (strI (n : Int)) = numL n := tl_num n
theorem str_neg {n : Nat} (h : 0 < n) : tl (strI (-(n : Int))) = 45 :: numL n := by
  obtain ⟨m, rfl⟩ : ∃ m, n = m + 1 := ⟨n - 1, by omega⟩
  have e : toString (-((m + 1 : Nat) : Int)) = "-" ++ toString (((m + 1 : Nat) : Int)) := rfl
  unfold strI
  rw [e]
  have z : Str.ofString ("-" ++ toString (((m + 1 : Nat) : Int))) = ("-" : Str) ++ Str.ofString (toString (((m + 1 : Nat) : Int))) := by
    refine ext_tl ?_
    rw [tl_append]
    show (Str.ofString _).cps.toList = (Str.ofString _).cps.toList ++ (Str.ofString _).cps.toList
    rw [Str.ofString_eq_toList, Str.ofString_eq_toList, Str.ofString_eq_toList]
    simp [String.toList_append]
  rw [z, tl_append, dash, tl_num]
  rfl
theorem str_cases (n : Int) : (∃ m : Nat, n = (m : Int) ∧ tl (strI n) = numL m) ∨ ∃ m : Nat, 0 < m ∧ n = -(m : Int) ∧ tl (strI n) = 45 :: numL m := by
  by_cases h : 0 ≤ n
  · obtain ⟨m, rfl⟩ := Int.eq_ofNat_of_zero_le h
    exact .inl ⟨m, rfl, str_nat m⟩
  · obtain ⟨m, e⟩ := Int.eq_ofNat_of_zero_le (show 0 ≤ -n by omega)
    have hm : 0 < m := by omega
    have e2 : n = -(m : Int) := by omega
    subst e2
    exact .inr ⟨m, hm, rfl, str_neg hm⟩
/-- the word is a number as the document writes it -/
def numOk (w : Str) : Prop := canonL (figL (tl w)) ∧ (figL (tl w) = [48] → tl w = [48])
/-- its value -/
def numV (l : List Nat) : Int := match l with
  | [] => 0
  | c :: r => if c = 45 then -((digitsVal r : Nat) : Int) else ((digitsVal (c :: r) : Nat) : Int)
theorem num_word {w : Str} (h : numOk w) : (canonL (tl w) ∧ figL (tl w) = tl w ∧ numV (tl w) = ((digitsVal (tl w) : Nat) : Int)) ∨
    ∃ r, tl w = 45 :: r ∧ canonL r ∧ r ≠ [48] ∧ figL (tl w) = r ∧ numV (tl w) = -((digitsVal r : Nat) : Int) := by
  obtain ⟨h1, h2⟩ := h
  cases e : tl w with
  | nil =>
    rw [e] at h1
    exact absurd rfl h1.1
  | cons c r =>
    rw [e] at h1 h2
    by_cases hc : c = 45
    · subst hc
      have ef : figL (45 :: r) = r := by simp [figL]
      rw [ef] at h1 h2
      refine .inr ⟨r, rfl, h1, fun z => ?_, ef, by simp [numV]⟩
      have := h2 z
      cases this
    · have ef : figL (c :: r) = c :: r := by simp [figL, hc]
      rw [ef] at h1
      exact .inl ⟨h1, ef, by simp [numV, hc]⟩
theorem num_int {w : Str} (h : numOk w) (hl : w.length ≤ 4300) : intText? w = some (numV (tl w)) := by
  rcases num_word h with ⟨h1, _, e⟩ | ⟨r, hr, h1, _, _, e⟩
  · rw [e]
    exact intText_digits h1.2.1 h1.1 hl
  · rw [e]
    exact intText_neg hr h1.2.1 h1.1 hl
theorem num_back {w : Str} (h : numOk w) : w = strI (numV (tl w)) := by
  refine ext_tl ?_
  rcases num_word h with ⟨h1, _, e⟩ | ⟨r, hr, h1, hz, _, e⟩
  · rw [e, str_nat, canon_num h1]
  · rw [e, str_neg (canon_pos h1 hz), canon_num h1, hr]
theorem num_str (n : Int) : numOk (strI n) ∧ numV (tl (strI n)) = n := by
  rcases str_cases n with ⟨m, rfl, e⟩ | ⟨m, hm, rfl, e⟩
  · have c := num_canon m
    have z : ∃ a r, numL m = a :: r ∧ a ≠ 45 := by
      obtain ⟨a, r, q⟩ := List.exists_cons_of_ne_nil c.1
      refine ⟨a, r, q, ?_⟩
      have := c.2.1 a (by rw [q]; exact List.mem_cons_self)
      omega
    obtain ⟨a, r, q, ha⟩ := z
    have ef : figL (numL m) = numL m := by rw [q]; simp [figL, ha]
    refine ⟨⟨by rw [e, ef]; exact c, fun z => by rw [e, ef] at z; rw [e]; exact z⟩, ?_⟩
    have v := numL_val m
    rw [e]
    rw [q] at v ⊢
    simp only [numV, ha, if_false]
    rw [v]
  · have c := num_canon m
    have ef : figL (45 :: numL m) = numL m := by simp [figL]
    refine ⟨⟨by rw [e, ef]; exact c, fun z => ?_⟩, ?_⟩
    · rw [e, ef] at z
      have : m = 0 := numL_inj (z.trans (by decide +kernel))
      omega
    · rw [e]
      simp only [numV, if_true]
      rw [numL_val]
theorem fig_str (n : Int) : (figL (tl (strI n))).length = (numL n.natAbs).length := by
  rcases str_cases n with ⟨m, rfl, e⟩ | ⟨m, hm, rfl, e⟩
  · obtain ⟨a, r, q⟩ := List.exists_cons_of_ne_nil (numL_ne m)
    have ha : a ≠ 45 := by
      have := numL_digits m a (by rw [q]; exact List.mem_cons_self)
      omega
    rw [e, show (m : Int).natAbs = m from rfl, q]
    simp [figL, ha]
  · rw [e, show (-(m : Int)).natAbs = m by omega]
    simp [figL]
theorem len_str (n : Int) : (strI n).length ≤ (numL n.natAbs).length + 1 := by
  rw [len_tl]
  rcases str_cases n with ⟨m, rfl, e⟩ | ⟨m, hm, rfl, e⟩
  · rw [e, show (m : Int).natAbs = m from rfl]
    omega
  · rw [e, show (-(m : Int)).natAbs = m by omega, List.length_cons]
    omega
theorem strI_inj {m n : Int} (h : strI m = strI n) : m = n := by
  rw [← (num_str m).2, ← (num_str n).2, h]
theorem free_str (n : Int) : 32 ∉ tl (strI n) := by
  rcases str_cases n with ⟨m, rfl, e⟩ | ⟨m, hm, rfl, e⟩
  · rw [e]
    exact numL_free (by omega)
  · rw [e]
    intro h
    rcases List.mem_cons.mp h with h | h
    · cases h
    · exact numL_free (by omega) h
end Wt
end
section
set_option Elab.async false
set_option linter.all false
set_option maxRecDepth 100000
set_option maxHeartbeats 4000000
/-! Entries in texts. -/
namespace Wt
open PySem TL NumText Builtin.Str PySem.StrLaws
theorem blank : tl (" " : Str) = [32] := by decide +kernel
theorem blank_k : (" " : Str).cps.all (· < 256) = true := by decide +kernel
theorem spl_ne : ∀ (l acc : List Nat), spl [32] 0 acc l ≠ []
  | [], acc => by rw [spl_nil]; simp
  | c :: r, acc => by
    by_cases h : pre [32] (c :: r) = true
    · rw [spl_hit h]
      simp
    · rw [spl_miss (by simpa using h)]
      exact spl_ne r _
theorem joinL_cons (S p : List Nat) {q : List (List Nat)} (h : q ≠ []) : joinL S (p :: q) = p ++ (S ++ joinL S q) := by
  obtain ⟨a, r, rfl⟩ := List.exists_cons_of_ne_nil h
  rfl
theorem join_spl : ∀ (l acc : List Nat), joinL [32] (spl [32] 0 acc l) = acc ++ l
  | [], acc => by rw [spl_nil, List.append_nil]; rfl
  | c :: r, acc => by
    by_cases h : pre [32] (c :: r) = true
    · rw [spl_hit h]
      have hc : c = 32 := by
        unfold pre at h
        simpa using h
      show joinL [32] (acc :: spl [32] 0 [] r) = _
      rw [joinL_cons _ _ (spl_ne r []), join_spl r []]
      simp [hc]
    · rw [spl_miss (by simpa using h), join_spl r _, List.append_assoc]
      rfl
def words (z : Str) : List Str := Txt.split z " "
theorem words_tl (z : Str) : (words z).map tl = spl [32] 0 [] (tl z) := by
  have e := split_spl z " " (by rw [blank]; simp) (kind_ok blank_k)
  rw [blank] at e
  exact e
theorem words_ne (z : Str) : words z ≠ [] := fun h => by
  have e := words_tl z
  rw [h] at e
  exact spl_ne _ _ e.symm
theorem words_join (z : Str) : Txt.join " " (words z) = z := by
  refine ext_tl ?_
  rw [join_eq, tl_join, blank, words_tl, join_spl, List.nil_append]
theorem joinL_len (S : List Nat) : ∀ l : List (List Nat), ∀ p ∈ l, p.length ≤ (joinL S l).length
  | [], p, h => by cases h
  | [a], p, h => by
    rw [List.mem_singleton.mp h]
    exact Nat.le_refl _
  | a :: b :: r, p, h => by
    rw [joinL_cons S a (by simp), List.length_append, List.length_append]
    rcases List.mem_cons.mp h with rfl | h
    · omega
    · have := joinL_len S (b :: r) p h
      omega
theorem words_len {z w : Str} (h : w ∈ words z) : w.length ≤ z.length := by
  have e := congrArg tl (words_join z)
  rw [join_eq, tl_join] at e
  have := joinL_len (tl " ") _ (tl w) (List.mem_map.mpr ⟨w, h, rfl⟩)
  rw [e] at this
  rw [len_tl w, len_tl z]
  exact this
theorem spl_count : ∀ (l acc : List Nat), (spl [32] 0 acc l).length ≤ l.length + 1
  | [], acc => by rw [spl_nil]; simp
  | c :: r, acc => by
    by_cases h : pre [32] (c :: r) = true
    · rw [spl_hit h]
      have := spl_count r []
      show (acc :: spl [32] 0 [] r).length ≤ _
      rw [List.length_cons, List.length_cons]
      omega
    · rw [spl_miss (by simpa using h)]
      have := spl_count r (acc ++ [c])
      rw [List.length_cons]
      omega
theorem words_count (z : Str) : (words z).length ≤ z.length + 1 := by
  have := spl_count (tl z) []
  rw [← words_tl, List.length_map, ← len_tl] at this
  exact this
def KS : List Str := ["day", "float", "zoned", "fixed"]
def fitsN (dg : Option Nat) (n : Int) : Prop := ∀ d, dg = some d → (numL n.natAbs).length ≤ d
/-- the words of an entry -/
structure RdW (dg : Option Nat) (ws : List Str) (k : Str) (a b : Int) (o : Option Str) : Prop where
  sp : ws = [k, strI a, "to", strI b] ++ o.toList
  kin : k ∈ KS
  zo : o.isSome = true ↔ k = "zoned"
  fa : fitsN dg a
  fb : fitsN dg b
  le : a ≤ b
  nm : ∀ n, o = some n → nameL (tl n)
def mkT (k : Str) (a b : Int) (o : Option Str) : Str := Txt.join " " ([k, strI a, "to", strI b] ++ o.toList)
theorem RdW.text {dg : Option Nat} {z k : Str} {a b : Int} {o : Option Str} (h : RdW dg (words z) k a b o) : z = mkT k a b o := by
  rw [← words_join z, h.sp]
  rfl
theorem ks_free {k : Str} (h : k ∈ KS) : 32 ∉ tl k := by
  have : ∀ x ∈ KS, 32 ∉ tl x := by decide +kernel
  exact this k h
theorem to_free : 32 ∉ tl ("to" : Str) := by decide +kernel
theorem mk_words {k : Str} {a b : Int} {o : Option Str} (hk : k ∈ KS) (hn : ∀ n, o = some n → nameL (tl n)) : words (mkT k a b o) = [k, strI a, "to", strI b] ++ o.toList := by
  refine split_join blank blank_k (by simp) fun p hp => ?_
  rcases List.mem_append.mp hp with hp | hp
  · simp only [List.mem_cons, List.not_mem_nil, or_false] at hp
    rcases hp with rfl | rfl | rfl | rfl
    · exact ks_free hk
    · exact free_str a
    · exact to_free
    · exact free_str b
  · cases o with
    | none => cases hp
    | some n =>
      have e : p = n := by simpa using hp
      subst e
      intro z
      have := (hn p rfl).2.2 32 z
      omega
theorem mk_reads {dg : Option Nat} {k : Str} {a b : Int} {o : Option Str} (hk : k ∈ KS) (hz : o.isSome = true ↔ k = "zoned") (ha : fitsN dg a) (hb : fitsN dg b) (hl : a ≤ b) (hn : ∀ n, o = some n → nameL (tl n)) :
    RdW dg (words (mkT k a b o)) k a b o := ⟨mk_words hk hn, hk, hz, ha, hb, hl, hn⟩
theorem RdW.uniq {dg dg' : Option Nat} {ws : List Str} {k k' : Str} {a a' b b' : Int} {o o' : Option Str} (h : RdW dg ws k a b o) (h' : RdW dg' ws k' a' b' o') : k = k' ∧ a = a' ∧ b = b' ∧ o = o' := by
  have e := h.sp.symm.trans h'.sp
  simp only [List.cons_append, List.nil_append, List.cons.injEq, true_and] at e
  obtain ⟨e1, e2, e3, e4⟩ := e
  refine ⟨e1, strI_inj e2, strI_inj e3, ?_⟩
  cases o <;> cases o' <;> simp_all
theorem mk_inj {k k' : Str} {a a' b b' : Int} {o o' : Option Str} (hk : k ∈ KS) (hn : ∀ n, o = some n → nameL (tl n)) (hk' : k' ∈ KS) (hn' : ∀ n, o' = some n → nameL (tl n)) (e : mkT k a b o = mkT k' a' b' o') :
    k = k' ∧ a = a' ∧ b = b' ∧ o = o' := by
  have h := congrArg words e
  rw [mk_words hk hn, mk_words hk' hn'] at h
  simp only [List.cons_append, List.nil_append, List.cons.injEq, true_and] at h
  obtain ⟨e1, e2, e3, e4⟩ := h
  refine ⟨e1, strI_inj e2, strI_inj e3, ?_⟩
  cases o <;> cases o' <;> simp_all
def fits (dg : Option Nat) (w : Str) : Prop := ∀ d, dg = some d → (figL (tl w)).length ≤ d
open Classical in
/-- what a word tells -/
noncomputable def numR (dg : Option Nat) (w : Str) : Option Int := if numOk w ∧ fits dg w then some (numV (tl w)) else none
theorem numR_some {dg : Option Nat} {w : Str} {n : Int} (h : numR dg w = some n) : w = strI n ∧ fitsN dg n := by
  unfold numR at h
  split at h
  · rename_i q
    have e := Option.some.inj h
    have b := num_back q.1
    rw [e] at b
    refine ⟨b, fun d hd => ?_⟩
    have := q.2 d hd
    rw [b, fig_str] at this
    exact this
  · cases h
theorem numR_str {dg : Option Nat} {n : Int} (h : fitsN dg n) : numR dg (strI n) = some n := by
  obtain ⟨h1, h2⟩ := num_str n
  unfold numR
  rw [if_pos ⟨h1, fun d hd => by rw [fig_str]; exact h d hd⟩, h2]
end Wt
end
section
set_option Elab.async false
set_option linter.all false
set_option maxRecDepth 100000
set_option maxHeartbeats 1000000
namespace Wd
open PySem PySem.Spec PyProof.Rows L2 Wt TL NumText
/-- what the net laws look up, whichever def reads it -/
structure Tx (K : PySem.W.Frag) (mg : Str → Option Value) : Prop extends TxtP mg where
  str : mg "str" = none
  isinstance : mg "isinstance" = none
  range : mg "range" = none
  bool : mg "bool" = none
  dict : mg "dict" = none
  enumerate : mg "enumerate" = none
  tuple : mg "tuple" = none
  KINDS : mg "KINDS" = some (.ref (He.ga K "KINDS"))
  kinds : ∀ H, SqT K H (He.ga K "KINDS") [.str "day", .str "float", .str "zoned", .str "fixed"]
  CLOCKED : mg "CLOCKED" = some (.ref (He.ga K "CLOCKED"))
  clocked : ∀ H, SqT K H (He.ga K "CLOCKED") [.str "float", .str "zoned", .str "fixed"]
  DAY : ∃ t, mg "DAY" = some (.int 1440 t)
  ML : ∃ t, mg "MOST_LETTERS" = some (.int 12 t)
  LM : ∃ t, mg "LAST_MINUTE" = some (.int 1439 t)
  MZ : ∃ t, mg "MOST_ZONES" = some (.int 6 t)
  MP : ∃ t, mg "MOST_PROGRAMS" = some (.int 12 t)
  MR : ∃ t, mg "MOST_ROUTES" = some (.int 40 t)
  MO : ∃ t, mg "MOST_OFFSET" = some (.int 840 t)
  KEEP : ∃ t, mg "KEEP" = some (.str "keep" t)
  cl : Cls K (He.ga K "Entry")
  n1 : NoAttr K (He.ga K "Entry") "text"
  n2 : NoAttr K (He.ga K "Entry") "kind"
  n3 : NoAttr K (He.ga K "Entry") "first"
  n4 : NoAttr K (He.ga K "Entry") "last"
  n5 : NoAttr K (He.ga K "Entry") "zone"
  Entry : mg "Entry" = some (.ref (He.ga K "Entry"))
/-- what no valid input reaches -/
def Bad (C : Addr) (H : Hp) (E : XK) : Prop := False
end Wd
end
section
set_option Elab.async false
set_option linter.all false
set_option maxRecDepth 100000
set_option maxHeartbeats 1000000
namespace Wd
open PySem PySem.Spec PyProof.Rows L2 Wt TL NumText
theorem ifB {b : Bool} {A B : Prop} (h : b = true) (a : A) : if b = true then A else B := by rw [if_pos h]; exact a
theorem ifN {b : Bool} {A B : Prop} (h : b = false) (z : B) : if b = true then A else B := by
  rw [h, if_neg Bool.false_ne_true]
  exact z
theorem ifQ {b : Bool} {A B : Prop} (x : b = true → A) (y : b = false → B) : if b = true then A else B := by
  cases b
  · exact ifN rfl (y rfl)
  · exact ifB rfl (x rfl)
def dgV : Option Nat → V
  | none => .non
  | some d => .int d
def oV : Option Int → V
  | none => .non
  | some i => .int i
def oS : Option Str → V
  | none => .non
  | some n => .str n
theorem line_ok {n : Nat} (h : n ≤ 10000) : n ≤ sizeLine := by rw [sizeLine_eq]; omega
def spName : Sp := fun vs H Q _ => ∃ z : Str, vs = [.str z] ∧ z.length ≤ 1000 ∧ ∀ b : Bool, (b = true ↔ nameL (tl z)) → Q (.bl b) H
def spNum : Sp := fun vs H Q _ => ∃ (z : Str) (dg : Option Nat), vs = [.str z, dgV dg] ∧ z.length ≤ 600 ∧ Q (oV (numR dg z)) H
def spIsk : Sp := fun vs H Q _ => ∃ k : Str, vs = [.str k] ∧ ∀ b : Bool, (b = true ↔ k ∈ KS) → Q (.bl b) H
section
variable {P : Program} {w : World} {K : PySem.W.Frag} {mg : Str → Option Value} {base : Heap} {f : Addr} {fd : FuncData}
theorem scNam : FnScope ["value"] ["value"] (defScope (top i_is_name)) := ⟨rfl, rfl, rfl, by decide +kernel, rfl, by decide +kernel, by decide +kernel⟩
theorem ok_nam (F : FnG K "is_name" i_is_name f fd) (T : Tx K mg) : FnOk P w K mg base CX0 1 f fd ["value"] spName := by
  refine F.ok scNam (fun vs H Q E h => ?_) (fun cdv A outer s H vs Q E hr h => ?_)
  · obtain ⟨z, rfl, _⟩ := h
    rfl
  · obtain ⟨z, rfl, hz, k⟩ := h
    obtain ⟨tM, hML⟩ := T.ML
    have ln : z.length ≤ sizeLine := line_ok (by omega)
    refine ⟨_, PSs.nox (pss_cons (ps_if (PW.pt (pw_or (pt_not (pt_val (pe_callB call_isi (by rfl) T.isinstance (by decide +kernel) (pa_cons (pv 0) (pa_cons (pe_bltn (v := .ty "str") (by rfl) T.str (by decide +kernel) rfl) pa_nil))))) (pw_or1 (pt_cmpR op_gt (pe_callB call_len_str (by rfl) T.len PySem.boot_len (pa_cons (pv 0) pa_nil)) (pe_glob (v := .int 12) rfl hML ⟨_, rfl⟩) (nomark _))))) (pss_one (ps_ret pe_bl)) pss_nil)
        (pss_one (ps_ret (pe_and (pe_m0 PySem.F.slot_str_isascii PySem.F.type_str_isascii mt_isascii (pv 0)) (pe_and (pe_m0 PySem.F.slot_str_isalpha PySem.F.type_str_isalpha mt_isalpha (pv 0)) (pe_one (pe_m0 PySem.F.slot_str_islower PySem.F.type_str_islower mt_islower (pv 0)))))))), ?_⟩
    refine ⟨_, rfl, .str z, .ty "str", .type "str", .type "str", true, rfl, .ty _, .base (.str _), kit_ty (by decide +kernel), true, rfl, ifN rfl ?_⟩
    refine ⟨_, rfl, _, rfl, ln, _, _, rfl, rfl, _, rfl, ifC (fun h => ?_) (fun h => ?_)⟩
    · refine k false ⟨fun e => (by cases e), fun e => ?_⟩
      have h2 := e.2.1
      rw [← len_tl] at h2
      have h3 : (12 : Int) < (z.length : Int) := h
      omega
    · have hlen : (tl z).length ≤ 12 := by
        rw [← len_tl]
        have h3 : ¬ (12 : Int) < (z.length : Int) := h
        omega
      have key := names_ok z
      refine ⟨_, rfl, ⟨_, rfl⟩, _, rfl, rfl, trivial, _, rfl, ifQ (fun h1 => ?_) (fun h1 => ?_)⟩
      · refine ⟨_, rfl, ⟨_, rfl⟩, _, rfl, rfl, trivial, _, rfl, ifQ (fun h2 => ?_) (fun h2 => ?_)⟩
        · refine ⟨_, rfl, ⟨_, rfl⟩, _, rfl, rfl, trivial, k _ ?_⟩
          rw [h1, h2, Bool.true_and, Bool.true_and] at key
          rw [key]
          exact ⟨fun e => ⟨e.1, hlen, e.2⟩, fun e => ⟨e.1, e.2.2⟩⟩
        · refine k false ⟨fun e => (by cases e), fun e => ?_⟩
          have := key.mpr ⟨e.1, e.2.2⟩
          rw [h2] at this
          simp at this
      · refine k false ⟨fun e => (by cases e), fun e => ?_⟩
        have := key.mpr ⟨e.1, e.2.2⟩
        rw [h1] at this
        simp at this
theorem scNum : FnScope ["word", "digits", "figures"] ["word", "digits"] (defScope (top i_number_in)) := ⟨rfl, rfl, rfl, by decide +kernel, rfl, by decide +kernel, by decide +kernel⟩
theorem figL_len : ∀ l : List Nat, (figL l).length ≤ l.length
  | [] => Nat.le_refl _
  | c :: r => by
    show (if c = 45 then r else c :: r).length ≤ _
    split
    · rw [List.length_cons]; omega
    · exact Nat.le_refl _
theorem one_eq (c : Nat) : ((⟨#[c]⟩ : Str) = "0") ↔ c = 48 := by
  have e : ("0" : Str) = ⟨#[48]⟩ := by decide +kernel
  rw [e]
  constructor
  · intro h
    have := congrArg tl h
    simpa [tl] using this
  · rintro rfl
    rfl
theorem ok_num (F : FunD K "number_in" "number_in" (defArgs (top i_number_in)) (defBody (top i_number_in)) (defScope (top i_number_in)) [.int 30] [] f fd) (T : Tx K mg) : FnOk P w K mg base CX0 1 f fd ["word", "digits"] spNum := by
  refine F.ok scNum (fun vs H Q E h => ?_) (fun cdv A outer s H vs Q E hr h => ?_)
  · obtain ⟨z, dg, rfl, _⟩ := h
    rfl
  · obtain ⟨z, dg, rfl, hz, k⟩ := h
    have ft := fig_tl z
    have fl : (fig z).length ≤ 1000 := by
      rw [len_tl, ft]
      rw [len_tl] at hz
      have := figL_len (tl z)
      omega
    have none_ : ¬ (numOk z ∧ fits dg z) → Q .non H := fun h => by
      have e : numR dg z = none := by
        unfold numR
        rw [if_neg h]
      rw [e] at k
      exact k
    refine ⟨_, PSs.nox (pss_cons (ps_set (i := 2) scNum.nd rfl (Or.inl rfl) (pe_m1 PySem.F.slot_str_removeprefix PySem.F.type_str_removeprefix mt_removeprefix (pv 0) pe_str))
        (pss_cons (ps_if (pt_not (PW.pt (pw_and (pt_val (pe_m0 PySem.F.slot_str_isascii PySem.F.type_str_isascii mt_isascii (pv 2))) (pw_and1 (pt_val (pe_m0 PySem.F.slot_str_isdigit PySem.F.type_str_isdigit mt_isdigit (pv 2))))))) (pss_one (ps_ret pe_non)) pss_nil)
        (pss_cons (ps_if (PW.pt (pw_and (pt_cmpR op_eq (pe_ix ix_str (pv 2) pe_int (fun _ _ => rfl)) pe_str (nomark _)) (pw_and1 (pt_cmpR op_ne (pv 0) pe_str (nomark _))))) (pss_one (ps_ret pe_non)) pss_nil)
        (pss_cons (ps_if (PW.pt (pw_and (pt_cmpR op_notN (pv 1) pe_non (nomark _)) (pw_and1 (pt_cmpR op_gt (pe_callB call_len_str (by rfl) T.len PySem.boot_len (pa_cons (pv 2) pa_nil)) (pv 1) (nomark _))))) (pss_one (ps_ret pe_non)) pss_nil)
        (pss_one (ps_ret (pe_callTy call_int_str (by rfl) T.int (by decide +kernel) (pa_cons (pv 0) pa_nil)))))))), ?_⟩
    refine ⟨_, rfl, ⟨_, rfl⟩, _, _, rfl, rfl, line_ok (by omega), ?_⟩
    have key := digits_ok (fig z)
    rw [ft] at key
    refine ⟨_, rfl, ⟨_, rfl⟩, _, rfl, rfl, trivial, _, rfl, ifQ (fun h1 => ?_) (fun h1 => ?_)⟩
    rotate_left
    · refine ifB (by rfl) ?_
      refine none_ fun h => ?_
      have := key.mpr ⟨h.1.1.1, h.1.1.2.1⟩
      unfold fig at this
      rw [h1] at this
      simp at this
    refine ⟨_, rfl, ⟨_, rfl⟩, _, rfl, rfl, trivial, _, rfl, ifQ (fun h2 => ?_) (fun h2 => ?_)⟩
    · refine none_ fun h => ?_
      have := key.mpr ⟨h.1.1.1, h.1.1.2.1⟩
      have h2' : (!Txt.isdigit (fig z)) = true := h2
      rw [Bool.and_eq_true] at this
      rw [this.2] at h2'
      cases h2'
    have h2' : (!Txt.isdigit (fig z)) = false := h2
    have hd := key.mp (by
      have h1' : Txt.isascii (fig z) = true := h1
      rw [h1', Bool.true_and]
      simpa using h2')
    obtain ⟨c, r, hc⟩ := List.exists_cons_of_ne_nil hd.1
    have at0 : atI (fig z).cps.toList 0 = some c := by
      have e : (fig z).cps.toList = c :: r := ft.trans hc
      rw [e]
      exact atI_nat (j := 0) rfl
    have lnf : (fig z).length ≤ sizeLine := line_ok (by omega)
    by_cases nk : numOk z
    · have okF : fits dg z → Q (.int (numV (tl z))) H := fun hf => by
        have e : numR dg z = some (numV (tl z)) := by
          unfold numR
          rw [if_pos ⟨nk, hf⟩]
        rw [e] at k
        exact k
      by_cases h48 : c = 48
      all_goals first
        | (have zz : z = "0" := by
             have e1 := nk.2 (nk.1.2.2 (by rw [hc, h48]; rfl))
             refine ext_tl ?_
             rw [e1]
             exact zero1.symm
           refine ⟨_, rfl, _, _, c, rfl, rfl, lnf, at0, rfl, _, rfl, ifT (congrArg V.str ((one_eq c).mpr h48)) ?_⟩
           refine ⟨_, rfl, rfl, _, rfl, ifN (by rw [decide_eq_true (congrArg V.str zz)]; rfl) ?_⟩)
        | (refine ⟨_, rfl, _, _, c, rfl, rfl, lnf, at0, rfl, _, rfl, ifF (fun e => h48 ((one_eq c).mp (V.str.inj e))) ?_⟩
           refine iteF ?_)
      all_goals
        cases dg with
        | none =>
          refine ⟨_, rfl, rfl, _, rfl, ifN rfl (iteF ?_)⟩
          exact ⟨_, rfl, _, _, rfl, num_int nk (by omega), by omega, okF fun d hd => by cases hd⟩
        | some d =>
          refine ⟨_, rfl, rfl, _, rfl, ifB rfl ?_⟩
          refine ⟨_, rfl, _, rfl, lnf, _, rfl, _, _, rfl, rfl, _, rfl, ifC (fun h5 => ?_) (fun h5 => ?_)⟩
          · refine none_ fun e => ?_
            have h6 := e.2 d rfl
            rw [← ft, ← len_tl] at h6
            have h7 : (d : Int) < ((fig z).length : Int) := h5
            omega
          · refine ⟨_, rfl, _, _, rfl, num_int nk (by omega), by omega, okF fun d' hd => ?_⟩
            have h7 : ¬ (d : Int) < ((fig z).length : Int) := h5
            cases hd
            rw [← ft, ← len_tl]
            omega
    · have c48 : c = 48 ∧ ¬ z = "0" := by
        refine ⟨Classical.byContradiction fun h => nk ⟨⟨hd.1, hd.2, fun e => ?_⟩, fun e => ?_⟩, fun h => nk ?_⟩
        · rw [hc] at e
          exact absurd (Option.some.inj e) h
        · rw [hc] at e
          exact absurd (List.cons.inj e).1 h
        · rw [h]
          have e1 := num_str 0
          have e2 : strI 0 = "0" := by decide +kernel
          rw [e2] at e1
          exact e1.1
      refine ⟨_, rfl, _, _, c, rfl, rfl, lnf, at0, rfl, _, rfl, ifT (congrArg V.str ((one_eq c).mpr c48.1)) ?_⟩
      refine ⟨_, rfl, rfl, _, rfl, ifB (by rw [decide_eq_false fun e => c48.2 (V.str.inj e)]; rfl) ?_⟩
      exact none_ fun e => nk e.1
end
end Wd
end
section
set_option Elab.async false
set_option linter.all false
set_option maxRecDepth 100000
set_option maxHeartbeats 1000000
namespace Wd
open PySem PySem.Spec PyProof.Rows L2 Wt TL NumText
theorem in_ks (k : Str) : inV (.str k) [.str "day", .str "float", .str "zoned", .str "fixed"] = true ↔ k ∈ KS := by
  simp only [inV, List.any_cons, List.any_nil, eqV, KS, List.mem_cons, List.not_mem_nil, or_false, Bool.or_eq_true, Bool.or_false, decide_eq_true_eq, beq_iff_eq]
  constructor
  · rintro (h | h | h | h) <;> simp [← h]
  · rintro (h | h | h | h) <;> simp [h]
theorem nf {b : Bool} (h : (!b) = false) : b = true := by
  cases b
  · cases h
  · rfl
theorem shape {ws : List Str} (hne : ws ≠ []) {k : Str} (hk : ws.head? = some k) (hl : (ws.length : Int) = if k = "zoned" then 5 else 4) :
    ∃ x t y o, ws = [k, x, t, y] ++ Option.toList o ∧ (Option.isSome o = true ↔ k = "zoned") := by
  obtain ⟨a, r, rfl⟩ := List.exists_cons_of_ne_nil hne
  have e : a = k := by simpa using hk
  subst e
  by_cases h : a = "zoned"
  · rw [if_pos h] at hl
    match r, hl with
    | [x, t, y, n], _ => exact ⟨x, t, y, some n, rfl, by simp [h]⟩
    | [], hl => simp at hl
    | [_], hl => simp at hl
    | [_, _], hl => simp at hl
    | [_, _, _], hl => simp at hl
    | _ :: _ :: _ :: _ :: _ :: r, hl => simp only [List.length_cons] at hl; omega
  · rw [if_neg h] at hl
    match r, hl with
    | [x, t, y], _ => exact ⟨x, t, y, none, rfl, by simp [h]⟩
    | [], hl => simp at hl
    | [_], hl => simp at hl
    | [_, _], hl => simp at hl
    | _ :: _ :: _ :: _ :: r, hl => simp only [List.length_cons] at hl; omega
def spParts (C : Addr) : Sp := fun vs H Q E => ∃ (l : Addr) (ws : List Str) (dg : Option Nat), vs = [.ref l, dgV dg] ∧ H l = some (.lst (ws.map V.str)) ∧ ws ≠ [] ∧ ws.length ≤ 1000 ∧ (∀ z ∈ ws, z.length ≤ 600) ∧
  (∀ k a b o, RdW dg ws k a b o → ∀ p, H p = none → Q (.ref p) (upd H p (.tup [.str k, .int a, .int b, oS o]))) ∧ ((∀ k a b o, ¬ RdW dg ws k a b o) → Bad C H E)
section
variable {P : Program} {w : World} {K : PySem.W.Frag} {mg : Str → Option Value} {base : Heap} {f : Addr} {fd : FuncData}
theorem scIsk : FnScope ["value"] ["value"] (defScope (top i_is_kind)) := ⟨rfl, rfl, rfl, by decide +kernel, rfl, by decide +kernel, by decide +kernel⟩
theorem ok_isk (F : FnG K "is_kind" i_is_kind f fd) (T : Tx K mg) : FnOk P w K mg base CX0 1 f fd ["value"] spIsk := by
  refine F.ok scIsk (fun vs H Q E h => ?_) (fun cdv A outer s H vs Q E hr h => ?_)
  · obtain ⟨z, rfl, _⟩ := h
    rfl
  · obtain ⟨z, rfl, k⟩ := h
    refine ⟨_, PSs.nox (pss_one (ps_ret (pe_and (pe_callB call_isi (by rfl) T.isinstance (by decide +kernel) (pa_cons (pv 0) (pa_cons (pe_bltn (v := .ty "str") (by rfl) T.str (by decide +kernel) rfl) pa_nil))) (pe_one (pe_cmpR op_in_seq (pv 0) (pe_glob (v := .ref (He.ga K "KINDS")) rfl T.KINDS rfl) (by rfl)))))), ?_⟩
    refine ⟨_, rfl, .str z, .ty "str", .type "str", .type "str", true, rfl, .ty _, .base (.str _), kit_ty (by decide +kernel), true, rfl, iteT ?_⟩
    exact ⟨_, rfl, _, _, rfl, .inr (T.kinds H), rfl, rfl, k _ (in_ks z)⟩
structure DParts (P : Program) (w : World) (K : PySem.W.Frag) (mg : Str → Option Value) (base : Heap) : Prop where
  number_in : Df P w K mg base CX0 1 "number_in" ["word", "digits"] spNum
  is_kind : Df P w K mg base CX0 1 "is_kind" ["value"] spIsk
  is_name : Df P w K mg base CX0 1 "is_name" ["value"] spName
theorem scParts : FnScope ["words", "digits", "kind", "first", "last"] ["words", "digits"] (defScope (top i__parts)) := ⟨rfl, rfl, rfl, by decide +kernel, rfl, by decide +kernel, by decide +kernel⟩
theorem ok_parts {C : Addr} (F : FnG K "_parts" i__parts f fd) (T : Tx K mg) (D : DParts P w K mg base) : FnOk P w K mg base (L2.CX P w) 3 f fd ["words", "digits"] (spParts C) := by
  refine F.ok scParts (fun vs H Q E h => ?_) (fun cdv A outer s H vs Q E hr h => ?_)
  · obtain ⟨l, ws, dg, rfl, _⟩ := h
    rfl
  · obtain ⟨l, ws, dg, rfl, hl, hne, hc, hz, good, bad⟩ := h
    have hr2 : Room 2 (A.deeper (envOfC "_parts" (defScope (top i__parts)) s.heap.objs.size f cdv)) := hr
    refine ⟨_, (pss_cons (ps_set (i := 2) scParts.nd rfl (Or.inl rfl) (pe_ix ix_list (pv 0) pe_int (fun _ _ => rfl)))
        (pss_cons (ps_if (PW.pt (pw_or (pt_not (pt_val (pe_cd D.is_kind (hr.mono (by decide)) pass0 (pa_cons (pv 2) pa_nil)))) (pw_or1 (pt_cmpR op_ne (pe_callB call_len (by rfl) T.len PySem.boot_len (pa_cons (pv 0) pa_nil)) (pe_ifExp (pt_cmpR op_eq (pv 2) pe_str (nomark _)) pe_int pe_int) (nomark _))))) (pss_one ps_never) pss_nil)
        (pss_cons (ps_set (i := 3) scParts.nd rfl (Or.inl rfl) (pe_cd D.number_in (hr.mono (by decide)) pass0 (pa_cons (pe_ix ix_list (pv 0) pe_int (fun _ _ => rfl)) (pa_cons (pv 1) pa_nil))))
        (pss_cons (ps_set (i := 4) scParts.nd rfl (Or.inl rfl) (pe_cd D.number_in (hr.mono (by decide)) pass0 (pa_cons (pe_ix ix_list (pv 0) pe_int (fun _ _ => rfl)) (pa_cons (pv 1) pa_nil))))
        (pss_cons (ps_if (PW.pt (pw_or (pt_cmpR op_ne (pe_ix ix_list (pv 0) pe_int (fun _ _ => rfl)) pe_str (nomark _)) (pw_or (pt_cmpR op_isN (pv 3) pe_non (nomark _)) (pw_or (pt_cmpR op_isN (pv 4) pe_non (nomark _)) (pw_or1 (pt_cmpR op_gt (pv 3) (pv 4) (nomark _))))))) (pss_one ps_never) pss_nil)
        (pss_cons (ps_if (pt_cmpR op_ne (pv 2) pe_str (nomark _)) (pss_one (ps_ret (pe_tup (pa_cons (pv 2) (pa_cons (pv 3) (pa_cons (pv 4) (pa_cons pe_non pa_nil))))))) pss_nil)
        (pss_cons (ps_if (pt_not (pt_val (pe_cd D.is_name (hr.mono (by decide)) pass0 (pa_cons (pe_ix ix_list (pv 0) pe_int (fun _ _ => rfl)) pa_nil)))) (pss_one ps_never) pss_nil)
        (pss_one (ps_ret (pe_tup (pa_cons (pv 2) (pa_cons (pv 3) (pa_cons (pv 4) (pa_cons (pe_ix ix_list (pv 0) pe_int (fun _ _ => rfl)) pa_nil)))))))))))))), ?_⟩
    obtain ⟨k, r, hw⟩ := List.exists_cons_of_ne_nil hne
    have h0 : ws.head? = some k := by rw [hw]; rfl
    have i0 : atI (ws.map V.str) 0 = some (.str k) := atI_nat (j := 0) (by rw [hw]; rfl)
    refine ⟨_, rfl, l, _, _, _, rfl, rfl, SqL.of hl, i0, ?_⟩
    refine ⟨_, rfl, k, rfl, fun b hb => ⟨b, rfl, ?_⟩⟩
    have bad1 : ¬ (k ∈ KS) → Bad C H E := fun h => bad fun k' a b o q => h (by
      have := q.sp
      rw [hw] at this
      rw [(List.cons.inj this).1]
      exact q.kin)
    refine ifQ (fun h1 => ?_) (fun h1 => ?_)
    · refine bad1 fun hk => ?_
      rw [hb.mpr hk] at h1
      cases h1
    have hk : k ∈ KS := hb.mp (by simpa using h1)
    have bad2 : (ws.length : Int) ≠ (if k = "zoned" then 5 else 4) → Bad C H E := fun h => bad fun k' a b o q => h (by
      have e := q.sp
      have ek : k = k' := by
        rw [hw] at e
        exact (List.cons.inj e).1
      have el := congrArg List.length e
      rw [ek]
      cases o with
      | none =>
        rw [if_neg fun z => by
          have := q.zo.mpr z
          cases this]
        simp only [Option.toList, List.append_nil, List.length_cons, List.length_nil] at el
        omega
      | some n =>
        rw [if_pos (q.zo.mp rfl)]
        simp only [Option.toList, List.length_append, List.length_cons, List.length_nil] at el
        omega)
    refine ⟨_, rfl, _, ws.length, rfl, .inl ⟨_, SqL.of hl, by rw [List.length_map]⟩, _, rfl, rfl, _, rfl, ifC (fun hzo => ?_) (fun hzo => ?_)⟩
    all_goals
      refine ⟨rfl, _, rfl, ifQ (fun h2 => ?_) (fun h2 => ?_)⟩
      · refine bad2 fun e => ?_
        first
          | rw [if_pos (V.str.inj hzo)] at e
          | rw [if_neg fun z => hzo (congrArg V.str z)] at e
        rw [e] at h2
        simp at h2
      have hl2 : (ws.length : Int) = if k = "zoned" then 5 else 4 := by
        have e := of_decide_eq_true (nf h2)
        first
          | rw [if_pos (V.str.inj hzo)]
          | rw [if_neg fun z => hzo (congrArg V.str z)]
        exact V.int.inj e
      obtain ⟨x, t, y, o, hw2, hzk⟩ := shape hne h0 hl2
      clear hw h0 i0 bad1 bad2 h2
      subst hw2
      have lx := hz x (by simp)
      have ly := hz y (by simp)
      have un : ∀ k' a b o', RdW dg ([k, x, t, y] ++ o.toList) k' a b o' → x = strI a ∧ t = "to" ∧ y = strI b ∧ o = o' := fun k' a b o' q => by
        have e := q.sp
        simp only [List.cons_append, List.nil_append, List.cons.injEq] at e
        obtain ⟨_, e2, e3, e4, e5⟩ := e
        refine ⟨e2, e3, e4, ?_⟩
        cases o <;> cases o' <;> simp_all
      refine ⟨_, rfl, l, _, _, _, rfl, rfl, SqL.of hl, atI_nat (j := 1) rfl, _, rfl, x, dg, rfl, lx, ?_⟩
      refine ⟨_, rfl, l, _, _, _, rfl, rfl, SqL.of hl, atI_nat (j := 3) rfl, _, rfl, y, dg, rfl, ly, ?_⟩
      refine ⟨_, rfl, l, _, _, _, rfl, rfl, SqL.of hl, atI_nat (j := 2) rfl, rfl, _, rfl, ifQ (fun h3 => ?_) (fun h3 => ?_)⟩
      · refine bad fun k' a b o' q => ?_
        obtain ⟨_, e, _⟩ := un k' a b o' q
        rw [e] at h3
        simp at h3
      have et : t = "to" := V.str.inj (of_decide_eq_true (nf h3))
      cases hx : numR dg x with
      | none =>
        refine ⟨_, rfl, rfl, _, rfl, ifB rfl (bad fun k' a b o' q => ?_)⟩
        have e := numR_str q.fa
        rw [← (un k' a b o' q).1, hx] at e
        cases e
      | some a =>
        refine ⟨_, rfl, rfl, _, rfl, ifN rfl ?_⟩
        cases hy : numR dg y with
        | none =>
          refine ⟨_, rfl, rfl, _, rfl, ifB rfl (bad fun k' a b o' q => ?_)⟩
          have e := numR_str q.fb
          rw [← (un k' a b o' q).2.2.1, hy] at e
          cases e
        | some b =>
          obtain ⟨exa, fa⟩ := numR_some hx
          obtain ⟨eyb, fb⟩ := numR_some hy
          refine ⟨_, rfl, rfl, _, rfl, ifN rfl ?_⟩
          refine ⟨_, rfl, _, rfl, _, _, rfl, rfl, _, rfl, ifC (fun h5 => bad fun k' a' b' o' q => ?_) (fun h5 => ?_)⟩
          · obtain ⟨u1, _, u3, _⟩ := un k' a' b' o' q
            have := q.le
            rw [exa] at u1
            rw [eyb] at u3
            have e1 := strI_inj u1
            have e2 := strI_inj u3
            have h5' : b < a := h5
            omega
          have hab : a ≤ b := Int.not_lt.mp h5
          refine ⟨_, rfl, rfl, _, rfl, ifQ (fun h6 => ?_) (fun h6 => ?_)⟩
          · have hk6 : ¬ k = "zoned" := fun z => by
              rw [z] at h6
              simp at h6
            have ho : o = none := by
              cases o with
              | none => rfl
              | some n => exact absurd (hzk.mp rfl) hk6
            subst ho
            exact ⟨_, rfl, _, rfl, _, rfl, (by show 4 ≤ sizeLine; decide), fun p hp => good k a b none ⟨by rw [exa, et, eyb], hk, hzk, fa, fb, hab, fun n e => by cases e⟩ p hp⟩
          · have hk6 : k = "zoned" := V.str.inj (of_decide_eq_true (nf h6))
            obtain ⟨n, ho⟩ := Option.isSome_iff_exists.mp (hzk.mpr hk6)
            subst ho
            refine ⟨_, rfl, l, _, _, _, rfl, rfl, SqL.of hl, atI_nat (j := 4) rfl, n, rfl, by have := hz n (by simp); omega, fun c hcn => ⟨c, rfl, ifQ (fun h7 => bad fun k' a' b' o' q => ?_) (fun h7 => ?_)⟩⟩
            · have u4 := (un k' a' b' o' q).2.2.2
              have := hcn.mpr (q.nm n u4.symm)
              rw [this] at h7
              cases h7
            · have hn : nameL (tl n) := hcn.mp (by simpa using h7)
              exact ⟨_, rfl, _, rfl, _, rfl, _, rfl, l, _, _, _, rfl, rfl, SqL.of hl, atI_nat (j := 4) rfl, (by show 4 ≤ sizeLine; decide), fun p hp => good k a b (some n) ⟨by rw [exa, et, eyb], hk, hzk, fa, fb, hab, fun m e => by cases e; exact hn⟩ p hp⟩
end
end Wd
end
section
set_option Elab.async false
set_option linter.all false
set_option maxRecDepth 100000
set_option maxHeartbeats 1000000
namespace Wd
open PySem PySem.Spec PyProof.Rows L2 Wt TL NumText
def eFs (z k : Str) (a b : Int) (o : Option Str) : List (Str × V) := putF "zone" (oS o) (putF "last" (.int b) (putF "first" (.int a) (putF "kind" (.str k) (putF "text" (.str z) []))))
/-- at x an entry -/
def EntA (C x : Addr) (z k : Str) (a b : Int) (o : Option Str) (H : Hp) : Prop := ∃ dx, H x = some (.ins C dx (eFs z k a b o))
section
variable {z k : Str} {a b : Int} {o : Option Str}
theorem lk_text : (eFs z k a b o).lookup ("text" : Str) = some (.str z) := by
  unfold eFs
  rw [lookup_putF, if_neg (by decide +kernel), lookup_putF, if_neg (by decide +kernel), lookup_putF, if_neg (by decide +kernel), lookup_putF, if_neg (by decide +kernel), lookup_putF, if_pos rfl]
theorem lk_kind : (eFs z k a b o).lookup ("kind" : Str) = some (.str k) := by
  unfold eFs
  rw [lookup_putF, if_neg (by decide +kernel), lookup_putF, if_neg (by decide +kernel), lookup_putF, if_neg (by decide +kernel), lookup_putF, if_pos rfl]
theorem lk_first : (eFs z k a b o).lookup ("first" : Str) = some (.int a) := by
  unfold eFs
  rw [lookup_putF, if_neg (by decide +kernel), lookup_putF, if_neg (by decide +kernel), lookup_putF, if_pos rfl]
theorem lk_last : (eFs z k a b o).lookup ("last" : Str) = some (.int b) := by
  unfold eFs
  rw [lookup_putF, if_neg (by decide +kernel), lookup_putF, if_pos rfl]
theorem lk_zone : (eFs z k a b o).lookup ("zone" : Str) = some (oS o) := by
  unfold eFs
  rw [lookup_putF, if_pos rfl]
end
theorem EntA.same {C x : Addr} {z k : Str} {a b : Int} {o : Option Str} {H H' : Hp} (s : Same H H') (h : EntA C x z k a b o H) : EntA C x z k a b o H' := by
  obtain ⟨dx, e⟩ := h
  exact ⟨dx, s _ _ e⟩
theorem Bad.mono {C : Addr} {H H' : Hp} {E : XK} (s : Same H H') (h : Bad C H E) : Bad C H' E := h
/-- a value that is no text -/
def NoText (K : PySem.W.Frag) (H : Hp) (v : V) : Prop := ∃ t, TyX K H v t ∧ PySem.W.kitOne K t (.type "str") = some false
def spEnt (K : PySem.W.Frag) (C CB : Addr) : Sp := fun vs H Q E => ∃ (x dx : Addr) (v : V) (dg : Option Nat), vs = [.ref x, v, dgV dg] ∧ H x = some (.ins C dx []) ∧
  ((∃ z : Str, v = .str z ∧ z.length ≤ 600 ∧ (∀ k a b o, RdW dg (words z) k a b o → ∀ H', (∀ c u, H c = some u → c ≠ x → H' c = some u) → EntA C x z k a b o H' → Q .non H') ∧
      ((∀ k a b o, ¬ RdW dg (words z) k a b o) → Bad CB H E)) ∨ (NoText K H v ∧ Bad CB H E))
def spEq (C : Addr) (K : PySem.W.Frag) : Sp := fun vs H Q _ => ∃ (x : Addr) (z k : Str) (a b : Int) (o : Option Str) (v : V), vs = [.ref x, v] ∧ EntA C x z k a b o H ∧
  ((∃ y z' k' a' b' o', v = .ref y ∧ EntA C y z' k' a' b' o' H ∧ Q (.bl (decide (z = z'))) H) ∨ ∃ t, TyX K H v t ∧ PySem.W.kitOne K t (.ref C) = some false ∧ Q (.bl false) H)
section
variable {P : Program} {w : World} {K : PySem.W.Frag} {mg : Str → Option Value} {base : Heap} {f : Addr} {fd : FuncData}
structure DEnt (P : Program) (w : World) (K : PySem.W.Frag) (mg : Str → Option Value) (base : Heap) (C : Addr) : Prop where
  parts : Df P w K mg base (L2.CX P w) 3 "_parts" ["words", "digits"] (spParts C)
theorem scEnt : FnScope ["self", "text", "digits", "kind", "first", "last", "zone"] ["self", "text", "digits"] (defScope (inClass (top i_Entry) 0)) := ⟨rfl, rfl, rfl, by decide +kernel, rfl, by decide +kernel, by decide +kernel⟩
theorem ok_ent {CB : Addr} (F : FunD K "__init__" "Entry.__init__" (defArgs (inClass (top i_Entry) 0)) (defBody (inClass (top i_Entry) 0)) (defScope (inClass (top i_Entry) 0)) [] [("digits", .int 30)] f fd) (T : Tx K mg) (D : DEnt P w K mg base CB) :
    FnOk P w K mg base (L2.CX P w) 4 f fd ["self", "text", "digits"] (spEnt K (He.ga K "Entry") CB) := by
  refine F.ok scEnt (fun vs H Q E h => ?_) (fun cdv A outer s H vs Q E hr h => ?_)
  · obtain ⟨x, dx, v, dg, rfl, _⟩ := h
    rfl
  · obtain ⟨x, dx, v, dg, rfl, hx, h⟩ := h
    have hr2 : Room 2 (A.deeper (envOfC "Entry.__init__" (defScope (inClass (top i_Entry) 0)) s.heap.objs.size f cdv)) := hr.mono (by decide)
    refine ⟨_, (pss_cons (ps_if (pt_not (pt_val (pe_callB call_isi (by rfl) T.isinstance (by decide +kernel) (pa_cons (pv 1) (pa_cons (pe_bltn (v := .ty "str") (by rfl) T.str (by decide +kernel) rfl) pa_nil))))) (pss_one ps_never) pss_nil)
        (pss_cons (ps_asg (pe_cd D.parts (hr.mono (by decide)) (passes_call (takes_of rfl rfl rfl rfl) (fun _ _ _ _ h => h)) (pa_cons (pe_split (pv 1) pe_str) (pa_cons (pv 2) pa_nil))) (pg_tup rfl (pgs_cons (pg_name (i := 3) scEnt.nd rfl (Or.inl rfl)) (pgs_cons (pg_name (i := 4) scEnt.nd rfl (Or.inl rfl)) (pgs_cons (pg_name (i := 5) scEnt.nd rfl (Or.inl rfl)) (pgs_cons (pg_name (i := 6) scEnt.nd rfl (Or.inl rfl)) pgs_nil))))))
        (pss_cons (ps_fld (pv 0) (pv 1) rfl)
        (pss_cons (ps_fld (pv 0) (pv 3) rfl)
        (pss_cons (ps_fld (pv 0) (pv 4) rfl)
        (pss_cons (ps_fld (pv 0) (pv 5) rfl)
        (pss_one (ps_fld (pv 0) (pv 6) rfl)))))))), ?_⟩
    rcases h with ⟨z, rfl, hz, good, bad⟩ | ⟨⟨t, ty, kt⟩, bad⟩
    rotate_left
    · exact ⟨_, rfl, v, .ty "str", t, .type "str", false, rfl, .ty _, ty, kt, false, rfl, ifB rfl bad⟩
    refine ⟨_, rfl, .str z, .ty "str", .type "str", .type "str", true, rfl, .ty _, .base (.str _), kit_ty (by decide +kernel), true, rfl, ifN rfl ?_⟩
    refine ⟨_, rfl, ⟨_, rfl⟩, _, _, rfl, rfl, (by decide +kernel), (by rw [sizeLine_eq]; omega), fun l hl => ?_⟩
    have sl : Same H (upd H l (.lst ((Txt.split z " ").map V.str))) := same_upd hl
    refine ⟨_, rfl, l, words z, dg, rfl, upd_same, words_ne z, (by have := words_count z; omega), (fun q hq => by have := words_len hq; omega), fun k a b o rd p hp => ?_, fun no => (bad no).mono sl⟩
    have sp : Same H (upd (upd H l (.lst ((Txt.split z " ").map V.str))) p (.tup [.str k, .int a, .int b, oS o])) := sl.trans (same_upd hp)
    have h2 := sp _ _ hx
    have ht : (upd (upd H l (.lst ((Txt.split z " ").map V.str))) p (.tup [.str k, .int a, .int b, oS o])) p = some (.tup [.str k, .int a, .int b, oS o]) := upd_same
    refine ⟨p, _, rfl, SqT.of ht, rfl, ?_⟩
    generalize upd (upd H l (.lst ((Txt.split z " ").map V.str))) p (.tup [.str k, .int a, .int b, oS o]) = H2 at h2 sp ⊢
    refine ⟨_, _, rfl, ⟨_, _, rfl, ⟨_, _, rfl, ⟨_, _, rfl, rfl, ?_⟩⟩⟩⟩
    refine ⟨_, rfl, _, rfl, x, _, dx, _, rfl, h2, T.cl, T.n1, (by show 0 < 1000; decide), ?_⟩
    refine ⟨_, rfl, _, rfl, x, _, dx, _, rfl, upd_same, T.cl, T.n2, (by show 1 < 1000; decide), ?_⟩
    refine ⟨_, rfl, _, rfl, x, _, dx, _, rfl, upd_same, T.cl, T.n3, (by show 2 < 1000; decide), ?_⟩
    refine ⟨_, rfl, _, rfl, x, _, dx, _, rfl, upd_same, T.cl, T.n4, (by show 3 < 1000; decide), ?_⟩
    refine ⟨_, rfl, _, rfl, x, _, dx, _, rfl, upd_same, T.cl, T.n5, (by show 4 < 1000; decide), ?_⟩
    refine good k a b o rd _ (fun c u q n => ?_) ⟨dx, upd_same⟩
    rw [upd_ne n, upd_ne n, upd_ne n, upd_ne n, upd_ne n]
    exact sp c u q
end
end Wd
end
section
set_option Elab.async false
set_option linter.all false
set_option maxRecDepth 100000
set_option maxHeartbeats 1000000
namespace Wd
open PySem PySem.Spec PyProof.Rows L2 Wt TL NumText
theorem passF {X : Cx} : Passes (L2.CX X.prog X.w) X (fun _ _ _ => False) := fun _ _ _ _ _ _ _ c => by
  obtain ⟨_, _, _, _, _, _, _, _, _, _, _, _, e⟩ := c
  exact e.elim
/-- the parts of an entry -/
structure Val (k : Str) (a b : Int) (o : Option Str) : Prop where
  kin : k ∈ KS
  zo : o.isSome = true ↔ k = "zoned"
  le : a ≤ b
  nm : ∀ n, o = some n → nameL (tl n)
def small (n : Int) : Prop := n.natAbs < 10 ^ 60
theorem small_len {n : Int} (h : small n) : (strI n).length ≤ 61 := by
  have := len_str n
  have z := numL_len (n := n.natAbs) (k := 60) (by decide) h
  omega
theorem small_log {n : Int} (h : small n) : n.natAbs.log2 < 1920 := by
  have h1 : n.natAbs < 2 ^ 200 := Nat.lt_of_lt_of_le h (by decide +kernel)
  have := PySem.Flt.log2_lt_of (show 0 < 200 by decide) h1
  omega
theorem ks_len {k : Str} (h : k ∈ KS) : k.length ≤ 5 := by
  have : ∀ x ∈ KS, x.length ≤ 5 := by decide +kernel
  exact this k h
theorem name_len {n : Str} (h : nameL (tl n)) : n.length ≤ 12 := by
  rw [len_tl]
  exact h.2.1
def tailS : Option Str → Str
  | none => Str.empty
  | some n => " " ++ n
theorem tl_empty : tl Str.empty = [] := rfl
theorem len_app (x y : Str) : (x ++ y).length = x.length + y.length := by
  rw [len_tl, tl_append, List.length_append, ← len_tl, ← len_tl]
theorem fitL {n : Nat} (h : n ≤ 10000) : n ≤ sizeLine := by rw [sizeLine_eq]; omega
theorem e_app (x : Str) : Str.empty ++ x = x := ext_tl (by rw [tl_append]; rfl)
theorem mk_glued (k : Str) (a b : Int) (o : Option Str) : k ++ " " ++ strI a ++ " to " ++ strI b ++ tailS o = mkT k a b o := by
  refine ext_tl ?_
  have e : tl (" to " : Str) = [32] ++ (tl ("to" : Str) ++ [32]) := by decide +kernel
  unfold mkT
  rw [join_eq, tl_join, Wt.blank]
  cases o with
  | none => simp [tl_append, Wt.blank, e, tailS, tl_empty, joinL, Option.toList]
  | some n => simp [tl_append, Wt.blank, e, tailS, joinL, Option.toList]
theorem et_of {k : Str} {a b : Int} {o : Option Str} (v : Val k a b o) : Str.empty ++ k ++ " " ++ Str.ofString (toString a) ++ " to " ++ Str.ofString (toString b) ++ tailS o = mkT k a b o := by
  rw [e_app]
  exact mk_glued k a b o
theorem mk_len {k : Str} {a b : Int} {o : Option Str} (v : Val k a b o) (ha : small a) (hb : small b) : (mkT k a b o).length ≤ 200 := by
  have h1 := ks_len v.kin
  have h2 := small_len ha
  have h3 := small_len hb
  have h4 : (tailS o).length ≤ 13 := by
    cases o with
    | none => exact Nat.zero_le _
    | some n =>
      have := name_len (v.nm n rfl)
      unfold tailS
      rw [len_app]
      have : (" " : Str).length = 1 := by decide +kernel
      omega
  rw [← mk_glued]
  simp only [len_app]
  have : (" " : Str).length = 1 := by decide +kernel
  have : (" to " : Str).length = 4 := by decide +kernel
  omega
def spOf (C : Addr) : Sp := fun vs H Q _ => ∃ (k : Str) (a b : Int) (o : Option Str), vs = [.str k, .int a, .int b, oS o] ∧ Val k a b o ∧ small a ∧ small b ∧
  ∀ x H', Same H H' → EntA C x (mkT k a b o) k a b o H' → Q (.ref x) H'
section
variable {P : Program} {w : World} {K : PySem.W.Frag} {mg : Str → Option Value} {base : Heap} {f : Addr} {fd : FuncData}
structure DOf (P : Program) (w : World) (K : PySem.W.Frag) (mg : Str → Option Value) (base : Heap) (CB : Addr) : Prop where
  mkE : Mk K (He.ga K "Entry") (He.ma K (He.ga K "Entry") "__init__")
  ini : ∃ fd, FnOk P w K mg base (L2.CX P w) 4 (He.ma K (He.ga K "Entry") "__init__") fd ["self", "text", "digits"] (spEnt K (He.ga K "Entry") CB) ∧
    (∃ mv : List Value, KBn K fd ["self", "text", "digits"] 2 ["digits"] (fun us ws => us ++ (mv ++ ws)) (fun vs zs => vs ++ ([] ++ zs))) ∧ ∃ ds, Vals [V.int 30] ds ∧ Binds K fd ["self", "text", "digits"] ds
theorem scOf : FnScope ["kind", "first", "last", "zone", "where"] ["kind", "first", "last", "zone"] (defScope (top i_entry_of)) := ⟨rfl, rfl, rfl, by decide +kernel, rfl, by decide +kernel, by decide +kernel⟩
theorem ok_of {CB : Addr} (F : FnG K "entry_of" i_entry_of f fd) (T : Tx K mg) (D : DOf P w K mg base CB) : FnOk P w K mg base CX0 6 f fd ["kind", "first", "last", "zone"] (spOf (He.ga K "Entry")) := by
  refine F.ok scOf (fun vs H Q E h => ?_) (fun cdv A outer s H vs Q E hr h => ?_)
  · obtain ⟨k, a, b, o, rfl, _⟩ := h
    rfl
  · obtain ⟨k, a, b, o, rfl, v, ha, hb', good⟩ := h
    obtain ⟨fdI, GI, ⟨mv, hb⟩, _⟩ := D.ini
    refine ⟨_, PSs.nox (pss_cons (ps_set (i := 4) scOf.nd rfl (Or.inl rfl) (pe_ifExp (pt_cmpR op_isN (pv 3) pe_non (nomark _)) pe_str (pe_joined (PJ.cons pe_str (PJ.cons (pe_fmt (pv 3)) PJ.nil)))))
        (pss_one (ps_ret (pe_makeK (n := 1) (ks := ["digits"]) D.mkE GI (hr.mono (by decide)) rfl T.Entry hb passF (pa_cons (pe_joined (PJ.cons (pe_fmt (pv 0)) (PJ.cons pe_str (PJ.cons (pe_fmt (pv 1)) (PJ.cons pe_str (PJ.cons (pe_fmt (pv 2)) (PJ.cons (pe_fmt (pv 4)) PJ.nil))))))) pa_nil) (pk_cons pe_non pk_nil))))), ?_⟩
    have l1 := ks_len v.kin
    have l2 := small_len ha
    have l3 := small_len hb'
    have ml := mk_len v ha hb'
    have g1 : (" " : Str).length = 1 := by decide +kernel
    have g4 : (" to " : Str).length = 4 := by decide +kernel
    have ge : (Str.empty : Str).length = 0 := rfl
    have l2' : (Str.ofString (toString a)).length ≤ 61 := l2
    have l3' : (Str.ofString (toString b)).length ≤ 61 := l3
    have gt : (tailS o).length ≤ 13 := by
      cases o with
      | none => exact Nat.zero_le _
      | some n =>
        have := name_len (v.nm n rfl)
        unfold tailS
        rw [len_app]
        omega
    rcases o with _ | n
    all_goals first
      | (refine ⟨_, rfl, rfl, _, rfl, ifB rfl ?_⟩
         rw [show ("" : Str) = tailS none from by decide +kernel])
      | (have ln := name_len (v.nm n rfl)
         refine ⟨_, rfl, rfl, _, rfl, ifN rfl ?_⟩
         refine ⟨_, rfl, fitL (by rw [len_app]; omega), _, rfl, .inl ⟨n, rfl, fitL (by omega), _, rfl, fitL (by rw [len_app, len_app]; omega), ?_⟩⟩
         rw [show Str.empty ++ (" " : Str) ++ n = tailS (some n) from by rw [e_app]; rfl])
    all_goals
      refine ⟨_, rfl, .inl ⟨k, rfl, fitL (by omega), _, rfl, fitL (by simp only [len_app]; omega), ?_⟩⟩
      refine ⟨_, rfl, fitL (by simp only [len_app]; omega), ?_⟩
      refine ⟨_, rfl, .inr ⟨a, rfl, small_log ha, _, rfl, fitL (by simp only [len_app]; omega), ?_⟩⟩
      refine ⟨_, rfl, fitL (by simp only [len_app]; omega), ?_⟩
      refine ⟨_, rfl, .inr ⟨b, rfl, small_log hb', _, rfl, fitL (by simp only [len_app]; omega), ?_⟩⟩
      refine ⟨_, rfl, .inl ⟨_, rfl, fitL (by omega), _, rfl, fitL (by simp only [len_app]; omega), ?_⟩⟩
      refine ⟨rfl, rfl, fun x dx nx ndx ne => ?_⟩
      have et := et_of v
      have s2 : Same H (upd (upd H dx (.own x)) x (.ins (He.ga K "Entry") dx [])) := fun c u q => by
        rw [upd_ne (ne_of_none q nx), upd_ne (ne_of_none q ndx)]
        exact q
      rw [et]
      refine ⟨x, dx, .str _, none, rfl, upd_same, .inl ⟨_, rfl, by omega, fun k' a' b' o' rd H' kp en => ⟨rfl, ?_⟩, fun no => ?_⟩⟩
      · obtain ⟨rfl, rfl, rfl, rfl⟩ := rd.uniq (mk_reads (dg := none) v.kin v.zo (fun d h => by cases h) (fun d h => by cases h) v.le v.nm)
        exact good x H' (fun c u q => kp c u (s2 c u q) (ne_of_none q nx)) en
      · exact absurd (mk_reads (dg := none) v.kin v.zo (fun d h => by cases h) (fun d h => by cases h) v.le v.nm) (no _ _ _ _)
structure DLater (P : Program) (w : World) (K : PySem.W.Frag) (mg : Str → Option Value) (base : Heap) : Prop where
  entry_of : Df P w K mg base CX0 6 "entry_of" ["kind", "first", "last", "zone"] (spOf (He.ga K "Entry"))
def stepOf (k : Str) (m : Int) : Int := if k = "day" then m else 1440 * m
def spLater (C : Addr) : Sp := fun vs H Q _ => ∃ (x : Addr) (z k : Str) (a b : Int) (o : Option Str) (m : Int), vs = [.ref x, .int m] ∧ EntA C x z k a b o H ∧ Val k a b o ∧ small (a + stepOf k m) ∧ small (b + stepOf k m) ∧
  ∀ y H', Same H H' → EntA C y (mkT k (a + stepOf k m) (b + stepOf k m) o) k (a + stepOf k m) (b + stepOf k m) o H' → Q (.ref y) H'
theorem Val.shift {k : Str} {a b : Int} {o : Option Str} (v : Val k a b o) (n : Int) : Val k (a + n) (b + n) o := ⟨v.kin, v.zo, by have := v.le; omega, v.nm⟩
theorem scLater : FnScope ["entry", "many", "step"] ["entry", "many"] (defScope (top i__later)) := ⟨rfl, rfl, rfl, by decide +kernel, rfl, by decide +kernel, by decide +kernel⟩
theorem ok_later (F : FnG K "_later" i__later f fd) (T : Tx K mg) (D : DLater P w K mg base) : FnOk P w K mg base CX0 7 f fd ["entry", "many"] (spLater (He.ga K "Entry")) := by
  refine F.ok scLater (fun vs H Q E h => ?_) (fun cdv A outer s H vs Q E hr h => ?_)
  · obtain ⟨x, z, k, a, b, o, m, rfl, _⟩ := h
    rfl
  · obtain ⟨x, z, k, a, b, o, m, rfl, ⟨dx, hx⟩, v, sa, sb, good⟩ := h
    obtain ⟨tD, hD⟩ := T.DAY
    refine ⟨_, PSs.nox (pss_cons (ps_set (i := 2) scLater.nd rfl (Or.inl rfl) (pe_ifExp (pt_cmpR op_eq (pe_fld (pv 0) rfl) pe_str (nomark _)) (pv 1) (pe_op op_mul (pe_glob (v := .int 1440) rfl hD ⟨_, rfl⟩) (pv 1))))
        (pss_one (ps_ret (pe_cd D.entry_of (hr.mono (by decide)) pass0 (pa_cons (pe_fld (pv 0) rfl) (pa_cons (pe_op op_add (pe_fld (pv 0) rfl) (pv 2)) (pa_cons (pe_op op_add (pe_fld (pv 0) rfl) (pv 2)) (pa_cons (pe_fld (pv 0) rfl) pa_nil)))))))), ?_⟩
    refine ⟨_, rfl, x, _, dx, _, _, rfl, hx, T.cl, T.n2, lk_kind, rfl, _, rfl, ifC (fun h => ?_) (fun h => ?_)⟩
    all_goals first
      | (refine ⟨_, rfl, ?_⟩
         have es : stepOf k m = m := if_pos (V.str.inj h)
         rw [es] at sa sb good)
      | (refine ⟨_, rfl, _, _, rfl, rfl, .inl ⟨by decide, by decide⟩, ?_⟩
         have es : stepOf k m = 1440 * m := if_neg fun e => h (congrArg V.str e)
         rw [es] at sa sb good)
    all_goals
      refine ⟨_, rfl, x, _, dx, _, _, rfl, hx, T.cl, T.n2, lk_kind, ?_⟩
      refine ⟨_, rfl, x, _, dx, _, _, rfl, hx, T.cl, T.n3, lk_first, _, rfl, _, _, rfl, rfl, ?_⟩
      refine ⟨_, rfl, x, _, dx, _, _, rfl, hx, T.cl, T.n4, lk_last, _, rfl, _, _, rfl, rfl, ?_⟩
      refine ⟨_, rfl, x, _, dx, _, _, rfl, hx, T.cl, T.n5, lk_zone, ?_⟩
      exact ⟨k, _, _, o, rfl, v.shift _, sa, sb, good⟩
structure D_add (P : Program) (w : World) (K : PySem.W.Frag) (mg : Str → Option Value) (base : Heap) : Prop where
  later : Df P w K mg base CX0 7 "_later" ["entry", "many"] (spLater (He.ga K "Entry"))
def sp_add (C : Addr) : Sp := fun vs H Q E => ∃ x m, vs = [.ref x, .int m] ∧ spLater C [.ref x, .int (m)] H Q E
theorem sc_add : FnScope ["self", "many"] ["self", "many"] (defScope (inClass (top i_Entry) 2)) := ⟨rfl, rfl, rfl, by decide +kernel, rfl, by decide +kernel, by decide +kernel⟩
theorem ok_add (F : FunD K "__add__" "Entry.__add__" (defArgs (inClass (top i_Entry) 2)) (defBody (inClass (top i_Entry) 2)) (defScope (inClass (top i_Entry) 2)) [] [] f fd) (D : D_add P w K mg base) : FnOk P w K mg base CX0 8 f fd ["self", "many"] (sp_add (He.ga K "Entry")) := by
  refine F.ok sc_add (fun vs H Q E h => ?_) (fun cdv A outer s H vs Q E hr h => ?_)
  · obtain ⟨x, m, rfl, _⟩ := h
    rfl
  · obtain ⟨x, m, rfl, y, z, k, a, b, o, n, ev, h⟩ := h
    refine ⟨_, PSs.nox (pss_one (ps_ret (pe_cd D.later (hr.mono (by decide)) pass0 (pa_cons (pv 0) (pa_cons (pv 1) pa_nil))))), ?_⟩
    exact ⟨_, rfl, _, rfl, y, z, k, a, b, o, n, ev, h⟩
structure D_sub (P : Program) (w : World) (K : PySem.W.Frag) (mg : Str → Option Value) (base : Heap) : Prop where
  later : Df P w K mg base CX0 7 "_later" ["entry", "many"] (spLater (He.ga K "Entry"))
def sp_sub (C : Addr) : Sp := fun vs H Q E => ∃ x m, vs = [.ref x, .int m] ∧ spLater C [.ref x, .int (-m)] H Q E
theorem sc_sub : FnScope ["self", "many"] ["self", "many"] (defScope (inClass (top i_Entry) 3)) := ⟨rfl, rfl, rfl, by decide +kernel, rfl, by decide +kernel, by decide +kernel⟩
theorem ok_sub (F : FunD K "__sub__" "Entry.__sub__" (defArgs (inClass (top i_Entry) 3)) (defBody (inClass (top i_Entry) 3)) (defScope (inClass (top i_Entry) 3)) [] [] f fd) (D : D_sub P w K mg base) : FnOk P w K mg base CX0 8 f fd ["self", "many"] (sp_sub (He.ga K "Entry")) := by
  refine F.ok sc_sub (fun vs H Q E h => ?_) (fun cdv A outer s H vs Q E hr h => ?_)
  · obtain ⟨x, m, rfl, _⟩ := h
    rfl
  · obtain ⟨x, m, rfl, y, z, k, a, b, o, n, ev, h⟩ := h
    refine ⟨_, PSs.nox (pss_one (ps_ret (pe_cd D.later (hr.mono (by decide)) pass0 (pa_cons (pv 0) (pa_cons (pe_un un_neg (pv 1)) pa_nil))))), ?_⟩
    exact ⟨_, rfl, _, rfl, _, rfl, y, z, k, a, b, o, n, ev, h⟩
end
end Wd
end
section
set_option Elab.async false
set_option linter.all false
set_option maxRecDepth 100000
set_option maxHeartbeats 1000000
namespace Wd
open PySem PySem.Spec PyProof.Rows L2 Wt TL NumText
/-- something is drawn: at most c more draws, all but the pen as it was -/
def Drawn (d l : Addr) (a c : Int) (H : Hp) (P : Int → Hp → Prop) : Prop := ∀ a' H', a ≤ a' → a' ≤ a + c → Pen H' d l a' → But d H H' → P a' H'
def spBig : Sp := fun vs H Q _ => ∃ (d l : Addr) (a n : Int), vs = [.ref d, .int n] ∧ Pen H d l a ∧ a ≤ 90000 ∧ 0 < n ∧ small n ∧ ∀ r, 0 ≤ r → r < n → Drawn d l a 12 H fun _ H' => Q (.int r) H'
section
variable {P : Program} {w : World} {K : PySem.W.Frag} {mg : Str → Option Value} {base : Heap} {f : Addr} {fd : FuncData}
structure DDraw (P : Program) (w : World) (K : PySem.W.Frag) (mg : Str → Option Value) (base : Heap) : Prop where
  law_draw : Df P w K mg base CX0 1 "_law_draw" ["_law_pen_here", "_law_many"] spDraw
  law_pick : Df P w K mg base CX0 2 "_law_pick" ["_law_pen_here", "_law_some"] (spPick K)
theorem scBig : FnScope ["_law_pen_here", "_law_many", "_law_found", "_law_k"] ["_law_pen_here", "_law_many"] (defScope (top i__law_big)) := ⟨rfl, rfl, rfl, by decide +kernel, rfl, by decide +kernel, by decide +kernel⟩
theorem ok_big (F : FnG K "_law_big" i__law_big f fd) (T : Tx K mg) (D : DDraw P w K mg base) : FnOk P w K mg base CX0 2 f fd ["_law_pen_here", "_law_many"] spBig := by
  refine F.ok scBig (fun vs H Q E h => ?_) (fun cdv A outer s H vs Q E hr h => ?_)
  · obtain ⟨d, l, a, n, rfl, _⟩ := h
    rfl
  · obtain ⟨d, l, a, n, rfl, hp, ha, hn, sn, k⟩ := h
    refine ⟨_, PSs.nox (pss_cons (ps_set (i := 2) scBig.nd rfl (Or.inl rfl) pe_int)
        (pss_cons (ps_for PassesOwn.never rfl (pi_range1 (by rfl) T.range (pa_cons (pe_op op_add (pe_op op_fdiv (pe_callB call_len_str (by rfl) T.len PySem.boot_len (pa_cons (pe_callTy call_str_int (by rfl) T.str (by decide +kernel) (pa_cons (pv 1) pa_nil)) pa_nil)) pe_int) pe_int) pa_nil)) (pg_name (i := 3) scBig.nd rfl (Or.inl rfl)) (pss_one (ps_set (i := 2) scBig.nd rfl (Or.inl rfl) (pe_op op_add (pe_op op_mul (pv 2) (pe_op op_pow pe_int pe_int)) (pe_cd D.law_draw (hr.mono (by decide)) pass0 (pa_cons (pv 0) (pa_cons (pe_op op_pow pe_int pe_int) pa_nil)))))))
        (pss_one (ps_ret (pe_op op_mod (pe_callTy call_int1 (by rfl) T.int (by decide +kernel) (pa_cons (pv 2) pa_nil)) (pv 1)))))), ?_⟩
    have ln : (Str.ofString (toString n)).length ≤ 61 := small_len sn
    refine ⟨_, rfl, _, rfl, small_log sn, _, rfl, fitL (by omega), _, _, rfl, rfl, ⟨by decide, by decide⟩, _, _, rfl, rfl, ?_⟩
    have q0 : (0 : Int) ≤ ((Str.ofString (toString n)).length : Int) / 6 + 2 := by omega
    have q1 : ((Str.ofString (toString n)).length : Int) / 6 + 2 ≤ 12 := by omega
    refine ⟨_, rfl, Int.le_trans (by decide) q0, Int.lt_of_le_of_lt q1 (by decide), for_range (lo := 0)
      (fun i σ H' => ∃ (x3 : Option V) (y a' : Int), σ = [some (.ref d), some (.int n), some (.int y), x3] ∧ Pen H' d l a' ∧ a ≤ a' ∧ a' ≤ a + i ∧ But d H H')
      ⟨none, 0, a, rfl, hp, Int.le_refl a, by omega, But.refl⟩ ?_ ?_⟩
    · rintro i σ H1 hi ⟨x3, y, a', rfl, p1, g1, g2, b1⟩
      have hi' : (i : Int) < 12 := by omega
      refine ⟨_, rfl, 10, 6, rfl, rfl, ⟨by decide, by decide, by decide⟩, _, _, rfl, rfl, .inr ⟨by decide, by decide⟩, _, rfl, 10, 6, rfl, rfl, ⟨by decide, by decide, by decide⟩,
        d, l, a', _, rfl, p1, by omega, by decide, by decide, fun r a2 H2 r0 rn g3 g4 p2 b2 => ?_⟩
      exact ⟨_, _, rfl, rfl, _, _, a2, rfl, p2, by omega, by omega, b1.trans b2⟩
    · rintro σ H1 ⟨x3, y, a', rfl, p1, g1, g2, b1⟩
      exact ⟨_, rfl, .inl ⟨_, rfl, _, rfl, _, _, rfl, rfl, hn, k _ (Int.emod_nonneg _ (by omega)) (Int.emod_lt_of_pos _ hn) a' H1 g1 (by omega) p1 b1⟩⟩
def spTxt (K : PySem.W.Frag) : Sp := fun vs H Q _ => ∃ (t : Addr) (k : Str) (a b : Int) (o : Option Str), vs = [.ref t] ∧ SqT K H t [.str k, .int a, .int b, oS o] ∧ k.length ≤ 100 ∧ small a ∧ small b ∧ (∀ n, o = some n → n.length ≤ 100) ∧ Q (.str (mkT k a b o)) H
theorem scTxt : FnScope ["_law_entry", "_law_kind", "_law_first", "_law_last", "_law_zone", "_law_text"] ["_law_entry"] (defScope (top i__law_entry_text)) := ⟨rfl, rfl, rfl, by decide +kernel, rfl, by decide +kernel, by decide +kernel⟩
theorem ok_txt (F : FnG K "_law_entry_text" i__law_entry_text f fd) (T : Tx K mg) : FnOk P w K mg base CX0 1 f fd ["_law_entry"] (spTxt K) := by
  refine F.ok scTxt (fun vs H Q E h => ?_) (fun cdv A outer s H vs Q E hr h => ?_)
  · obtain ⟨t, k, a, b, o, rfl, _⟩ := h
    rfl
  · obtain ⟨t, k, a, b, o, rfl, ht, lk, sa, sb, lo, q⟩ := h
    refine ⟨_, PSs.nox (pss_cons (ps_asg (pv 0) (pg_tup rfl (pgs_cons (pg_name (i := 1) scTxt.nd rfl (Or.inl rfl)) (pgs_cons (pg_name (i := 2) scTxt.nd rfl (Or.inl rfl)) (pgs_cons (pg_name (i := 3) scTxt.nd rfl (Or.inl rfl)) (pgs_cons (pg_name (i := 4) scTxt.nd rfl (Or.inl rfl)) pgs_nil))))))
        (pss_cons (ps_set (i := 5) scTxt.nd rfl (Or.inl rfl) (pe_op op_add_str (pe_op op_add_str (pe_op op_add_str (pe_op op_add_str (pv 1) pe_str) (pe_callTy call_str_int (by rfl) T.str (by decide +kernel) (pa_cons (pv 2) pa_nil))) pe_str) (pe_callTy call_str_int (by rfl) T.str (by decide +kernel) (pa_cons (pv 3) pa_nil))))
        (pss_one (ps_ret (pe_ifExp (pt_cmpR op_isN (pv 4) pe_non (nomark _)) (pv 5) (pe_op op_add_str (pe_op op_add_str (pv 5) pe_str) (pv 4))))))), ?_⟩
    have l2 : (Str.ofString (toString a)).length ≤ 61 := small_len sa
    have l3 : (Str.ofString (toString b)).length ≤ 61 := small_len sb
    have g1 : (" " : Str).length = 1 := by decide +kernel
    have g4 : (" to " : Str).length = 4 := by decide +kernel
    refine ⟨_, rfl, t, _, rfl, ht, rfl, _, _, rfl, _, _, rfl, _, _, rfl, _, _, rfl, rfl, ?_⟩
    refine ⟨_, rfl, _, _, rfl, rfl, fitL (by omega), _, rfl, _, rfl, small_log sa, _, _, rfl, rfl, fitL (by simp only [len_app]; omega), _, _, rfl, rfl, fitL (by simp only [len_app]; omega), _, rfl, _, rfl, small_log sb, _, _, rfl, rfl, fitL (by simp only [len_app]; omega), ?_⟩
    have mg0 : k ++ " " ++ Str.ofString (toString a) ++ " to " ++ Str.ofString (toString b) ++ tailS o = mkT k a b o := mk_glued k a b o
    rcases o with _ | n
    · refine ⟨_, rfl, rfl, _, rfl, ifB rfl ⟨_, rfl, ?_⟩⟩
      rw [← mg0] at q
      have e : ∀ x : Str, x ++ Str.empty = x := fun x => ext_tl (by rw [tl_append, tl_empty, List.append_nil])
      unfold tailS at q
      rw [e] at q
      exact q
    · have ln := lo n rfl
      refine ⟨_, rfl, rfl, _, rfl, ifN rfl ?_⟩
      refine ⟨_, rfl, _, _, rfl, rfl, fitL (by simp only [len_app]; omega), _, rfl, _, _, rfl, rfl, fitL (by simp only [len_app]; omega), ?_⟩
      rw [← mg0] at q
      have e : ∀ x : Str, x ++ (" " ++ n) = x ++ " " ++ n := fun x => ext_tl (by rw [tl_append, tl_append, tl_append, tl_append, List.append_assoc])
      unfold tailS at q
      rw [e] at q
      exact q
end
end Wd
end
section
set_option Elab.async false
set_option linter.all false
set_option maxRecDepth 100000
set_option maxHeartbeats 1000000
namespace Wd
open PySem PySem.Spec PyProof.Rows L2 Wt TL NumText
theorem tyL {K : PySem.W.Frag} {H : Hp} {p : Addr} {xs : List V} (h : H p = some (.lst xs)) : tyV K "list" (.ref p) H := .inl ⟨rfl, xs, SqL.of h⟩
theorem Pen.dne {H : Hp} {d l : Addr} {a : Int} {t : Addr} {xs : List V} (h : Pen H d l a) (ht : H t = some (.lst xs)) : t ≠ d := by
  obtain ⟨cs, b, h1, _⟩ := h
  rintro rfl
  rw [ht] at h1
  cases h1
theorem Pen.dnt {H : Hp} {d l : Addr} {a : Int} {t : Addr} {xs : List V} (h : Pen H d l a) (ht : H t = some (.tup xs)) : t ≠ d := by
  obtain ⟨cs, b, h1, _⟩ := h
  rintro rfl
  rw [ht] at h1
  cases h1
theorem Pen.lne {H : Hp} {d l : Addr} {a : Int} {t : Addr} (h : Pen H d l a) (ht : H t = none) : t ≠ l := by
  obtain ⟨cs, b, _, h2, _⟩ := h
  rintro rfl
  rw [ht] at h2
  cases h2
/-- the pen stands through a store elsewhere -/
theorem Pen.put {H : Hp} {d l : Addr} {a : Int} {t : Addr} {o : HO} (h : Pen H d l a) (h1 : t ≠ d) (h2 : t ≠ l) : Pen (L2.upd H t o) d l a := by
  obtain ⟨cs, b, e1, e2, e3⟩ := h
  exact ⟨cs, b, by rw [upd_ne h1.symm]; exact e1, by rw [upd_ne h2.symm]; exact e2, e3⟩
theorem Pen.new {H0 H : Hp} {d l u : Addr} {a a0 : Int} {o : HO} (h0 : Pen H0 d l a0) (hu : H0 u = none) (h : Pen H d l a) : Pen (L2.upd H u o) d l a :=
  h.put (by
    obtain ⟨cs, b, e1, _⟩ := h0
    exact (ne_of_none e1 hu).symm) (h0.lne hu)
/-- but the pen's dict and what is new since H0, all stands -/
theorem But.new {d u : Addr} {H0 H : Hp} {o : HO} (hu : H0 u = none) (x : But d H0 H) : But d H0 (L2.upd H u o) := fun c z e n => by
  rw [upd_ne (ne_of_none e hu)]
  exact x c z e n
/-- a list in another order: what was there, each -/
def spShuf : Sp := fun vs H Q _ => ∃ (d l t : Addr) (a : Int) (xs : List V), vs = [.ref d, .ref t] ∧ Pen H d l a ∧ a ≤ 90000 ∧ H t = some (.lst xs) ∧ xs.length ≤ 1000 ∧
  ∀ ys, ys.Perm xs → Drawn d l a xs.length H fun _ H' => ∀ u, H u = none → H' u = some (.lst ys) → Q (.ref u) H'
def spOffset : Sp := fun vs H Q _ => ∃ (d l : Addr) (a st : Int), vs = [.ref d, .int st] ∧ Pen H d l a ∧ a ≤ 90000 ∧ 0 < st ∧ st ≤ 840 ∧
  ∀ r, -840 ≤ r → r ≤ 840 → Drawn d l a 2 H fun _ H' => Q (.int r) H'
def spHours : Sp := fun vs H Q _ => ∃ (d l : Addr) (a st : Int), vs = [.ref d, .int st] ∧ Pen H d l a ∧ a ≤ 90000 ∧ 0 < st ∧ st ≤ 720 ∧
  ∀ b e : Int, 0 ≤ b → b ≤ e → e ≤ 1439 → Drawn d l a 3 H fun _ H' => ∀ u, H u = none → H' u = some (.tup [.int b, .int e]) → Q (.ref u) H'
/-- the rules that may be drawn for a kind -/
def rulesFor (k : Str) : List Str := if k = "day" then ["keep", "float", "zoned", "fixed"] else if k = "float" then ["keep", "day", "zoned", "fixed"] else
  if k = "fixed" then ["keep", "day", "float", "zoned"] else ["keep", "own day", "home day", "own float", "home float", "as if", "moved", "fixed"]
def spRulesFor : Sp := fun vs H Q _ => ∃ k : Str, vs = [.str k] ∧ ∀ t, H t = none → Q (.ref t) (upd H t (.lst ((rulesFor k).map V.str)))
/-- a drawn rule's text -/
def RuleD (k z : Str) : Prop := (k ≠ "day" ∧ z ∈ rulesFor k) ∨ (k = "day" ∧ (z = "keep" ∨ ∃ t ∈ rulesFor "day", t ≠ "keep" ∧ ∃ b e : Int, 0 ≤ b ∧ b ≤ e ∧ e ≤ 1439 ∧ z = t ++ " " ++ strI b ++ " " ++ strI e))
def spRule : Sp := fun vs H Q _ => ∃ (d l : Addr) (a st : Int) (k : Str), vs = [.ref d, .str k, .int st] ∧ Pen H d l a ∧ a ≤ 80000 ∧ 0 < st ∧ st ≤ 720 ∧
  ∀ z, RuleD k z → Drawn d l a 4 H fun _ H' => Q (.str z) H'
theorem perm_erase {α : Type} : ∀ (l : List α) (j : Nat) (y : α), l[j]? = some y → (y :: l.eraseIdx j).Perm l
  | [], _, _, h => by simp at h
  | a :: r, 0, y, h => by
    have e : a = y := by simpa using h
    subst e
    exact List.Perm.refl _
  | a :: r, j + 1, y, h => (List.Perm.swap a y (r.eraseIdx j)).trans ((perm_erase r j y (by simpa using h)).cons a)
theorem perm_snoc {α : Type} {xs rest found : List α} {j : Nat} {y : α} (hy : rest[j]? = some y) (h : (found ++ rest).Perm xs) : ((found ++ [y]) ++ rest.eraseIdx j).Perm xs := by
  refine List.Perm.trans ?_ h
  rw [List.append_assoc]
  exact List.Perm.append_left found (perm_erase rest j y hy)
theorem seq_nat {j n : Nat} (h : j < n) : seqIndex? (j : Int) n = some j := by
  have := atI_get (xs := List.replicate n ()) (atI_nat (j := j) (v := ()) (by rw [List.getElem?_replicate, if_pos h]))
  obtain ⟨k, h1, h2, _⟩ := this
  rw [List.length_replicate] at h1
  have : (ixN n (j : Int)) = some j := by
    unfold ixN
    rw [if_pos (by omega), if_pos (by omega)]
    rfl
  exact (ixN_seq this).1
section
variable {P : Program} {w : World} {K : PySem.W.Frag} {mg : Str → Option Value} {base : Heap} {f : Addr} {fd : FuncData}
theorem scShuffled : FnScope ["_law_pen_here", "_law_some", "_law_left", "_law_found", "_law_k"] ["_law_pen_here", "_law_some"] (defScope (top i__law_shuffled)) := ⟨rfl, rfl, rfl, by decide +kernel, rfl, by decide +kernel, by decide +kernel⟩
theorem ok_shuf (F : FnG K "_law_shuffled" i__law_shuffled f fd) (T : Tx K mg) (D : DDraw P w K mg base) : FnOk P w K mg base CX0 2 f fd ["_law_pen_here", "_law_some"] spShuf := by
  refine F.ok scShuffled (fun vs H Q E h => ?_) (fun cdv A outer s H vs Q E hr h => ?_)
  · obtain ⟨d, l, t, a, xs, rfl, _⟩ := h
    rfl
  · obtain ⟨d, l, t, a, xs, rfl, hp, ha, ht, hx, k⟩ := h
    refine ⟨_, PSs.nox (pss_cons (ps_par (i := 2) (j := 3) (by rfl) scShuffled.nd rfl rfl (by decide) rfl rfl (pa_cons (pe_callTy call_list_of (by rfl) T.list (by decide +kernel) (pa_cons (pv 1) pa_nil)) (pa_cons (pe_lst pa_nil) pa_nil)) (by rfl))
        (pss_cons (ps_for PassesOwn.never rfl (pi_range1 (by rfl) T.range (pa_cons (pe_callB call_len (by rfl) T.len PySem.boot_len (pa_cons (pv 2) pa_nil)) pa_nil)) (pg_name (i := 4) scShuffled.nd rfl (Or.inl rfl)) (pss_one (ps_expr (pe_bm PySem.F.plainAttrs_list PySem.F.slot_list_append PySem.F.type_list_append mt_append (pv 3) (pa_cons (pe_bm PySem.F.plainAttrs_list PySem.F.slot_list_pop PySem.F.type_list_pop mt_popAt (pv 2) (pa_cons (pe_cd D.law_draw (hr.mono (by decide)) pass0 (pa_cons (pv 0) (pa_cons (pe_callB call_len (by rfl) T.len PySem.boot_len (pa_cons (pv 2) pa_nil)) pa_nil))) pa_nil)) pa_nil)))))
        (pss_one (ps_ret (pv 3))))), ?_⟩
    have hsz : xs.length ≤ sizeLine := fitL (by omega)
    refine ⟨_, rfl, t, xs, rfl, .inl (SqL.of ht), fun lf hlf => ⟨(by show 0 ≤ sizeLine; decide), fun fo hfo => ?_⟩⟩
    have nfl : fo ≠ lf := fun e => by
      rw [e, upd_same] at hfo
      cases hfo
    have hfo0 : H fo = none := by
      rw [upd_ne nfl] at hfo
      exact hfo
    refine ⟨_, _, rfl, ?_⟩
    have s0 : Same H (upd (upd H lf (.lst xs)) fo (.lst [])) := (same_upd hlf).trans (same_upd hfo)
    have e1 : (upd (upd H lf (.lst xs)) fo (.lst [])) lf = some (.lst xs) := by rw [upd_ne nfl.symm, upd_same]
    refine ⟨_, rfl, _, xs.length, rfl, .inl ⟨_, SqL.of e1, rfl⟩, _, rfl, by omega, by omega, for_range (lo := 0)
      (fun i σ H' => ∃ (x3 : Option V) (rest found : List V) (a' : Int), σ = [some (.ref d), some (.ref t), some (.ref lf), some (.ref fo), x3] ∧ Pen H' d l a' ∧ a ≤ a' ∧ a' ≤ a + i ∧ But d H H' ∧
        H' lf = some (.lst rest) ∧ H' fo = some (.lst found) ∧ (found ++ rest).Perm xs ∧ found.length = i)
      ⟨none, xs, [], a, rfl, hp.same s0, Int.le_refl a, by omega, But.same s0, e1, upd_same, by simp, rfl⟩ ?_ ?_⟩
    · rintro i σ H1 hi ⟨x3, rest, found, a', rfl, p1, g1, g2, b1, q1, q2, pe, hl⟩
      have lr : found.length + rest.length = xs.length := by
        have := pe.length_eq
        rwa [List.length_append] at this
      have hi' : i < xs.length := by
        have := hi
        omega
      refine ⟨_, rfl, tyL q2, _, rfl, tyL q1, _, rfl, _, rfl, _, rest.length, rfl, .inl ⟨_, SqL.of q1, rfl⟩, d, l, a', rest.length, rfl, p1, by omega, by omega, by omega, fun r a2 H2 r0 rn g3 g4 p2 b2 => ?_⟩
      obtain ⟨j, rfl⟩ := Int.eq_ofNat_of_zero_le r0
      have hj : j < rest.length := by omega
      have nd1 := p1.dne q1
      have nd2 := p1.dne q2
      have q1' := b2 lf _ q1 nd1
      have q2' := b2 fo _ q2 nd2
      have y0 : rest[j]? = some rest[j] := List.getElem?_eq_getElem hj
      refine ⟨lf, rest, _, j, rest[j], rfl, rfl, q1', by omega, by omega, seq_nat hj, y0, ?_⟩
      have q3 : upd H2 lf (.lst (rest.eraseIdx j)) fo = some (.lst found) := by rw [upd_ne nfl]; exact q2'
      refine ⟨fo, found, _, rfl, rfl, q3, by rw [sizeLine_eq]; rw [sizeLine_eq] at hsz; omega, ?_⟩
      refine ⟨_, rest.eraseIdx j, found ++ [rest[j]], a2, rfl, (hp.new hfo0 (hp.new hlf p2)), by omega, by omega, But.new hfo0 (But.new hlf (b1.trans b2)), by rw [upd_ne nfl.symm, upd_same], upd_same, perm_snoc y0 pe, by rw [List.length_append, List.length_singleton, hl]⟩
    · rintro σ H1 ⟨x3, rest, found, a', rfl, p1, g1, g2, b1, q1, q2, pe, hl⟩
      have lr : found.length + rest.length = xs.length := by
        have := pe.length_eq
        rwa [List.length_append] at this
      have r0 : rest = [] := List.length_eq_zero_iff.mp (by
        have h1 : found.length = xs.length := by simpa using hl
        omega)
      subst r0
      rw [List.append_nil] at pe
      exact ⟨_, rfl, k found pe a' H1 g1 (by simpa using g2) p1 b1 fo hfo0 q2⟩
end
end Wd
end
section
set_option Elab.async false
set_option linter.all false
set_option maxRecDepth 100000
set_option maxHeartbeats 1000000
namespace Wd
open PySem PySem.Spec PyProof.Rows L2 Wt TL NumText
theorem But.free {d l u : Addr} {a : Int} {H H' : Hp} (b : But d H H') (p : Pen H' d l a) (h : H' u = none) : H u = none := by
  cases e : H u with
  | none => rfl
  | some o =>
    obtain ⟨cs, x, h1, _⟩ := p
    by_cases z : u = d
    · subst z
      rw [h1] at h
      cases h
    · rw [b u o e z] at h
      cases h
theorem Pen.ne {H : Hp} {d l : Addr} {a : Int} {t : Addr} (h : Pen H d l a) (ht : H t = none) : t ≠ d := by
  obtain ⟨cs, b, e, _⟩ := h
  exact (ne_of_none e ht).symm
theorem mulbd {s x f m : Int} (hs : 0 < s) (h1 : -f ≤ x) (h2 : x ≤ f) (h3 : s * f ≤ m) : -m ≤ s * x ∧ s * x ≤ m := by
  have g1 := Int.mul_le_mul_of_nonneg_left h1 (Int.le_of_lt hs)
  have g2 := Int.mul_le_mul_of_nonneg_left h2 (Int.le_of_lt hs)
  rw [Int.mul_neg] at g1
  omega
theorem ge1 {a b : Int} (hb : 0 < b) (h : b ≤ a) : 1 ≤ a / b := by
  have := Int.ediv_le_ediv hb h
  rwa [Int.ediv_self (by omega)] at this
theorem div_le1 {a b : Int} (ha : 0 ≤ a) (hb : 0 < b) : a / b ≤ a := Int.ediv_le_self _ ha
theorem ifC' {p : Prop} [Decidable p] {A B : Prop} (a : ¬ p → A) (b : p → B) : if (!decide p) = true then A else B := by
  by_cases h : p
  · rw [decide_eq_true h, if_neg (by decide)]
    exact b h
  · rw [decide_eq_false h, if_pos (by decide)]
    exact a h
section
variable {P : Program} {w : World} {K : PySem.W.Frag} {mg : Str → Option Value} {base : Heap} {f : Addr} {fd : FuncData}
theorem scOffset : FnScope ["_law_pen_here", "_law_step", "_law_far", "_law_way"] ["_law_pen_here", "_law_step"] (defScope (top i__law_offset)) := ⟨rfl, rfl, rfl, by decide +kernel, rfl, by decide +kernel, by decide +kernel⟩
theorem ok_offset (F : FnG K "_law_offset" i__law_offset f fd) (T : Tx K mg) (D : DDraw P w K mg base) : FnOk P w K mg base CX0 2 f fd ["_law_pen_here", "_law_step"] spOffset := by
  refine F.ok scOffset (fun vs H Q E h => ?_) (fun cdv A outer s H vs Q E hr h => ?_)
  · obtain ⟨d, l, a, st, rfl, _⟩ := h
    rfl
  · obtain ⟨d, l, a, st, rfl, hp, ha, h0, h1, k⟩ := h
    refine ⟨_, PSs.nox (pss_cons (ps_par (i := 2) (j := 3) (by rfl) scOffset.nd rfl rfl (by decide) rfl rfl (pa_cons (pe_op op_fdiv pe_int (pv 1)) (pa_cons (pe_cd D.law_draw (hr.mono (by decide)) pass0 (pa_cons (pv 0) (pa_cons pe_int pa_nil))) pa_nil)) (by rfl))
        (pss_cons (ps_if (pt_cmpR op_lt (pv 3) pe_int (nomark _)) (pss_one (ps_ret (pe_op op_mul (pv 1) (pe_ix ix_list (pe_lst (pa_cons pe_int (pa_cons (pv 2) (pa_cons (pe_un un_neg (pv 2)) pa_nil)))) (pv 3) (fun _ _ => rfl))))) pss_nil)
        (pss_one (ps_ret (pe_op op_mul (pv 1) (pe_op op_sub (pe_cd D.law_draw (hr.mono (by decide)) pass0 (pa_cons (pv 0) (pa_cons (pe_op op_add (pe_op op_mul pe_int (pv 2)) pe_int) pa_nil))) (pv 2))))))), ?_⟩
    have f0 : 0 ≤ (840 : Int) / st := Int.ediv_nonneg (by decide) (by omega)
    have f1 : (840 : Int) / st ≤ 840 := div_le1 (by decide) h0
    have f2 : st * ((840 : Int) / st) ≤ 840 := Int.mul_ediv_self_le (by omega)
    refine ⟨_, rfl, _, _, rfl, rfl, ⟨h0, by omega⟩, _, rfl, d, l, a, _, rfl, hp, by omega, by decide, by decide, fun r a1 H1 r0 rn g1 g2 p1 b1 => ⟨_, _, rfl, ?_⟩⟩
    refine ⟨_, rfl, _, _, rfl, rfl, _, rfl, ifC (fun hr3 => ?_) (fun hr3 => ?_)⟩
    · have hr3 : r < 3 := hr3
      obtain ⟨x, hx, x1, x2⟩ : ∃ x : Int, atI [V.int 0, .int (840 / st), .int (-(840 / st))] r = some (.int x) ∧ -(840 / st) ≤ x ∧ x ≤ 840 / st := by
        have : r = 0 ∨ r = 1 ∨ r = 2 := by omega
        rcases this with rfl | rfl | rfl
        · exact ⟨0, rfl, by omega, by omega⟩
        · exact ⟨_, rfl, by omega, by omega⟩
        · exact ⟨_, rfl, by omega, by omega⟩
      refine ⟨_, rfl, _, rfl, _, rfl, _, rfl, (by show 3 ≤ sizeLine; decide), fun t ht => ?_⟩
      refine ⟨_, rfl, t, _, _, _, rfl, rfl, SqL.of upd_same, hx, _, _, rfl, rfl, .inl ⟨by omega, by omega⟩, ?_⟩
      have mb := mulbd h0 x1 x2 f2
      exact k _ mb.1 mb.2 a1 _ g1 (by omega) (p1.same (same_upd ht)) (b1.trans (But.same (same_upd ht)))
    · refine ⟨_, rfl, _, rfl, _, rfl, _, _, rfl, rfl, .inl ⟨by decide, by decide⟩, _, _, rfl, rfl, d, l, a1, _, rfl, p1, by omega, by omega, by omega, fun q a2 H2 q0 qn g3 g4 p2 b2 => ?_⟩
      refine ⟨_, rfl, _, _, rfl, rfl, _, _, rfl, rfl, .inl ⟨by omega, by omega⟩, ?_⟩
      have mb := mulbd (x := q - 840 / st) h0 (by omega) (by omega) f2
      exact k _ mb.1 mb.2 a2 _ (by omega) (by omega) p2 (b1.trans b2)
theorem scHours : FnScope ["_law_pen_here", "_law_step", "_law_way", "_law_begin"] ["_law_pen_here", "_law_step"] (defScope (top i__law_hours)) := ⟨rfl, rfl, rfl, by decide +kernel, rfl, by decide +kernel, by decide +kernel⟩
theorem ok_hours (F : FnG K "_law_hours" i__law_hours f fd) (T : Tx K mg) (D : DDraw P w K mg base) : FnOk P w K mg base CX0 2 f fd ["_law_pen_here", "_law_step"] spHours := by
  refine F.ok scHours (fun vs H Q E h => ?_) (fun cdv A outer s H vs Q E hr h => ?_)
  · obtain ⟨d, l, a, st, rfl, _⟩ := h
    rfl
  · obtain ⟨d, l, a, st, rfl, hp, ha, h0, h1, k⟩ := h
    refine ⟨_, PSs.nox (pss_cons (ps_par (i := 2) (j := 3) (by rfl) scHours.nd rfl rfl (by decide) rfl rfl (pa_cons (pe_cd D.law_draw (hr.mono (by decide)) pass0 (pa_cons (pv 0) (pa_cons pe_int pa_nil))) (pa_cons (pe_op op_mul (pv 1) (pe_cd D.law_draw (hr.mono (by decide)) pass0 (pa_cons (pv 0) (pa_cons (pe_op op_fdiv pe_int (pv 1)) pa_nil)))) pa_nil)) (by rfl))
        (pss_cons (ps_if (pt_cmpR op_eq (pv 2) pe_int (nomark _)) (pss_one (ps_ret (pe_tup (pa_cons pe_int (pa_cons pe_int pa_nil))))) pss_nil)
        (pss_cons (ps_if (pt_cmpR op_eq (pv 2) pe_int (nomark _)) (pss_one (ps_ret (pe_tup (pa_cons (pv 3) (pa_cons pe_int pa_nil))))) pss_nil)
        (pss_cons (ps_if (pt_cmpR op_eq (pv 2) pe_int (nomark _)) (pss_one (ps_ret (pe_tup (pa_cons (pv 3) (pa_cons (pv 3) pa_nil))))) pss_nil)
        (pss_one (ps_ret (pe_tup (pa_cons (pv 3) (pa_cons (pe_op op_add (pv 3) (pe_op op_mul (pv 1) (pe_cd D.law_draw (hr.mono (by decide)) pass0 (pa_cons (pv 0) (pa_cons (pe_op op_fdiv (pe_op op_sub pe_int (pv 3)) (pv 1)) pa_nil))))) pa_nil))))))))), ?_⟩
    have f0 : 1 ≤ (1440 : Int) / st := ge1 h0 (by omega)
    have f1 : (1440 : Int) / st ≤ 1440 := div_le1 (by decide) h0
    have f2 : st * ((1440 : Int) / st) ≤ 1440 := Int.mul_ediv_self_le (by omega)
    refine ⟨_, rfl, d, l, a, _, rfl, hp, by omega, by decide, by decide, fun r a1 H1 r0 rn g1 g2 p1 b1 => ?_⟩
    refine ⟨_, rfl, _, rfl, _, rfl, _, _, rfl, rfl, ⟨h0, by omega⟩, d, l, a1, _, rfl, p1, by omega, by omega, by omega, fun q a2 H2 q0 qn g3 g4 p2 b2 => ?_⟩
    refine ⟨_, _, rfl, rfl, .inl ⟨by omega, by omega⟩, _, _, rfl, ?_⟩
    have m0 : 0 ≤ st * q := Int.mul_nonneg (by omega) q0
    have m1 : st * q ≤ 1440 - st := by
      have := Int.mul_le_mul_of_nonneg_left (show q + 1 ≤ 1440 / st by omega) (Int.le_of_lt h0)
      rw [Int.mul_add] at this
      omega
    have bb := b1.trans b2
    have fin : ∀ (b e : Int) (a3 : Int) (H3 : Hp), 0 ≤ b → b ≤ e → e ≤ 1439 → a2 ≤ a3 → a3 ≤ a2 + 1 → Pen H3 d l a3 → But d H2 H3 → ∀ u, H3 u = none → Q (.ref u) (L2.upd H3 u (.tup [.int b, .int e])) :=
      fun b e a3 H3 e1 e2 e3 g5 g6 p3 b3 u hu => k b e e1 e2 e3 a3 _ (by omega) (by omega) (p3.same (same_upd hu)) ((bb.trans b3).trans (But.same (same_upd hu))) u ((bb.trans b3).free p3 hu) upd_same
    refine ⟨_, rfl, rfl, _, rfl, ifC (fun _ => ?_) (fun _ => ?_)⟩
    · exact ⟨(by show 2 ≤ sizeLine; decide), fin 0 1439 a2 H2 (by decide) (by decide) (by decide) (by omega) (by omega) p2 But.refl⟩
    refine ⟨_, rfl, rfl, _, rfl, ifC (fun _ => ?_) (fun _ => ?_)⟩
    · exact ⟨_, rfl, (by show 2 ≤ sizeLine; decide), fin _ 1439 a2 H2 m0 (by omega) (by decide) (by omega) (by omega) p2 But.refl⟩
    refine ⟨_, rfl, rfl, _, rfl, ifC (fun _ => ?_) (fun _ => ?_)⟩
    · exact ⟨_, rfl, _, rfl, (by show 2 ≤ sizeLine; decide), fin _ _ a2 H2 m0 (by omega) (by omega) (by omega) (by omega) p2 But.refl⟩
    · have f3 : 1 ≤ (1440 - st * q) / st := ge1 h0 (by omega)
      have f4 : (1440 - st * q) / st ≤ 1440 - st * q := div_le1 (by omega) h0
      have f5 : st * ((1440 - st * q) / st) ≤ 1440 - st * q := Int.mul_ediv_self_le (by omega)
      refine ⟨_, rfl, _, rfl, _, rfl, _, rfl, _, rfl, _, _, rfl, rfl, _, rfl, _, _, rfl, rfl, ⟨h0, by omega⟩, d, l, a2, _, rfl, p2, by omega, by omega, by omega, fun z a3 H3 z0 zn g5 g6 p3 b3 => ?_⟩
      have m2 : 0 ≤ st * z := Int.mul_nonneg (by omega) z0
      have m3 : st * z ≤ 1440 - st * q - st := by
        have := Int.mul_le_mul_of_nonneg_left (show z + 1 ≤ (1440 - st * q) / st by omega) (Int.le_of_lt h0)
        rw [Int.mul_add] at this
        omega
      exact ⟨_, _, rfl, rfl, .inl ⟨by omega, by omega⟩, _, _, rfl, rfl, (by show 2 ≤ sizeLine; decide), fin _ _ a3 H3 m0 (by omega) (by omega) g5 g6 p3 b3⟩
theorem scRules_for : FnScope ["_law_kind"] ["_law_kind"] (defScope (top i__law_rules_for)) := ⟨rfl, rfl, rfl, by decide +kernel, rfl, by decide +kernel, by decide +kernel⟩
theorem ok_rulesFor (F : FnG K "_law_rules_for" i__law_rules_for f fd) (T : Tx K mg) : FnOk P w K mg base CX0 1 f fd ["_law_kind"] spRulesFor := by
  refine F.ok scRules_for (fun vs H Q E h => ?_) (fun cdv A outer s H vs Q E hr h => ?_)
  · obtain ⟨kd, rfl, _⟩ := h
    rfl
  · obtain ⟨kd, rfl, k⟩ := h
    refine ⟨_, PSs.nox (pss_cons (ps_if (pt_cmpR op_eq (pv 0) pe_str (nomark _)) (pss_one (ps_ret (pe_lst (pa_cons pe_str (pa_cons pe_str (pa_cons pe_str (pa_cons pe_str pa_nil))))))) pss_nil)
        (pss_cons (ps_if (pt_cmpR op_eq (pv 0) pe_str (nomark _)) (pss_one (ps_ret (pe_lst (pa_cons pe_str (pa_cons pe_str (pa_cons pe_str (pa_cons pe_str pa_nil))))))) pss_nil)
        (pss_cons (ps_if (pt_cmpR op_eq (pv 0) pe_str (nomark _)) (pss_one (ps_ret (pe_lst (pa_cons pe_str (pa_cons pe_str (pa_cons pe_str (pa_cons pe_str pa_nil))))))) pss_nil)
        (pss_one (ps_ret (pe_lst (pa_cons pe_str (pa_cons pe_str (pa_cons pe_str (pa_cons pe_str (pa_cons pe_str (pa_cons pe_str (pa_cons pe_str (pa_cons pe_str pa_nil)))))))))))))), ?_⟩
    have g4 : 4 ≤ sizeLine := by decide
    have g8 : 8 ≤ sizeLine := by decide
    refine ⟨_, rfl, rfl, _, rfl, ifC (fun h1 => ?_) (fun h1 => ?_)⟩
    · have e : rulesFor kd = (["keep", "float", "zoned", "fixed"] : List Str) := by unfold rulesFor; rw [if_pos (V.str.inj h1)]
      rw [e] at k
      exact ⟨g4, k⟩
    have h1 : ¬ kd = "day" := fun z => h1 (congrArg V.str z)
    refine ⟨_, rfl, rfl, _, rfl, ifC (fun h2 => ?_) (fun h2 => ?_)⟩
    · have e : rulesFor kd = (["keep", "day", "zoned", "fixed"] : List Str) := by unfold rulesFor; rw [if_neg h1, if_pos (V.str.inj h2)]
      rw [e] at k
      exact ⟨g4, k⟩
    have h2 : ¬ kd = "float" := fun z => h2 (congrArg V.str z)
    refine ⟨_, rfl, rfl, _, rfl, ifC (fun h3 => ?_) (fun h3 => ?_)⟩
    · have e : rulesFor kd = (["keep", "day", "float", "zoned"] : List Str) := by unfold rulesFor; rw [if_neg h1, if_neg h2, if_pos (V.str.inj h3)]
      rw [e] at k
      exact ⟨g4, k⟩
    have h3 : ¬ kd = "fixed" := fun z => h3 (congrArg V.str z)
    have e : rulesFor kd = (["keep", "own day", "home day", "own float", "home float", "as if", "moved", "fixed"] : List Str) := by unfold rulesFor; rw [if_neg h1, if_neg h2, if_neg h3]
    rw [e] at k
    exact ⟨g8, k⟩
structure DRule (P : Program) (w : World) (K : PySem.W.Frag) (mg : Str → Option Value) (base : Heap) : Prop extends DDraw P w K mg base where
  law_hours : Df P w K mg base CX0 2 "_law_hours" ["_law_pen_here", "_law_step"] spHours
  law_rules_for : Df P w K mg base CX0 1 "_law_rules_for" ["_law_kind"] spRulesFor
theorem rulesFor_len {k z : Str} (h : z ∈ rulesFor k) : z.length ≤ 10 := by
  have a1 : ∀ x ∈ (["keep", "float", "zoned", "fixed"] : List Str), x.length ≤ 10 := by decide +kernel
  have a2 : ∀ x ∈ (["keep", "day", "zoned", "fixed"] : List Str), x.length ≤ 10 := by decide +kernel
  have a3 : ∀ x ∈ (["keep", "day", "float", "zoned"] : List Str), x.length ≤ 10 := by decide +kernel
  have a4 : ∀ x ∈ (["keep", "own day", "home day", "own float", "home float", "as if", "moved", "fixed"] : List Str), x.length ≤ 10 := by decide +kernel
  unfold rulesFor at h
  split at h
  · exact a1 z h
  split at h
  · exact a2 z h
  split at h
  · exact a3 z h
  · exact a4 z h
theorem rulesFor_ne (k : Str) : rulesFor k ≠ [] ∧ (rulesFor k).length ≤ 8 := by
  unfold rulesFor
  split
  · exact ⟨List.cons_ne_nil _ _, by decide⟩
  split
  · exact ⟨List.cons_ne_nil _ _, by decide⟩
  split
  · exact ⟨List.cons_ne_nil _ _, by decide⟩
  · exact ⟨List.cons_ne_nil _ _, by decide⟩
theorem small_of {n : Int} (h : n.natAbs ≤ 100000000000000000000000000000000) : small n := Nat.lt_of_le_of_lt h (by decide +kernel)
theorem scRule : FnScope ["_law_pen_here", "_law_kind", "_law_step", "_law_rule_here", "_law_begin", "_law_end"] ["_law_pen_here", "_law_kind", "_law_step"] (defScope (top i__law_rule)) := ⟨rfl, rfl, rfl, by decide +kernel, rfl, by decide +kernel, by decide +kernel⟩
theorem ok_rule (F : FnG K "_law_rule" i__law_rule f fd) (T : Tx K mg) (D : DRule P w K mg base) : FnOk P w K mg base CX0 4 f fd ["_law_pen_here", "_law_kind", "_law_step"] spRule := by
  refine F.ok scRule (fun vs H Q E h => ?_) (fun cdv A outer s H vs Q E hr h => ?_)
  · obtain ⟨d, l, a, st, kd, rfl, _⟩ := h
    rfl
  · obtain ⟨d, l, a, st, kd, rfl, hp, ha, h0, h1, k⟩ := h
    refine ⟨_, PSs.nox (pss_cons (ps_set (i := 3) scRule.nd rfl (Or.inl rfl) (pe_cd D.law_pick (hr.mono (by decide)) pass0 (pa_cons (pv 0) (pa_cons (pe_cd D.law_rules_for (hr.mono (by decide)) pass0 (pa_cons (pv 1) pa_nil)) pa_nil))))
        (pss_cons (ps_if (PW.pt (pw_or (pt_cmpR op_ne (pv 1) pe_str (nomark _)) (pw_or1 (pt_cmpR op_eq (pv 3) pe_str (nomark _))))) (pss_one (ps_ret (pv 3))) pss_nil)
        (pss_cons (ps_asg (pe_cd D.law_hours (hr.mono (by decide)) pass0 (pa_cons (pv 0) (pa_cons (pv 2) pa_nil))) (pg_tup rfl (pgs_cons (pg_name (i := 4) scRule.nd rfl (Or.inl rfl)) (pgs_cons (pg_name (i := 5) scRule.nd rfl (Or.inl rfl)) pgs_nil))))
        (pss_one (ps_ret (pe_op op_add_str (pe_op op_add_str (pe_op op_add_str (pe_op op_add_str (pv 3) pe_str) (pe_callTy call_str_int (by rfl) T.str (by decide +kernel) (pa_cons (pv 4) pa_nil))) pe_str) (pe_callTy call_str_int (by rfl) T.str (by decide +kernel) (pa_cons (pv 5) pa_nil)))))))), ?_⟩
    obtain ⟨ne, le8⟩ := rulesFor_ne kd
    refine ⟨_, rfl, _, rfl, kd, rfl, fun t ht => ?_⟩
    have s1 := same_upd (o := .lst ((rulesFor kd).map V.str)) ht
    refine ⟨d, l, a, _, rfl, hp.same s1, by omega, .inl ⟨t, _, rfl, hp.ne ht, upd_same, fun z => ne (List.map_eq_nil_iff.mp z), by rw [List.length_map]; omega, fun x a1 H1 hx g1 g2 p1 b1 => ?_⟩⟩
    obtain ⟨r, hr1, rfl⟩ := List.mem_map.mp hx
    have lr := rulesFor_len hr1
    have bb : But d H H1 := (But.same s1).trans b1
    refine ⟨_, rfl, rfl, _, rfl, ifC' (fun hk => ?_) (fun hk => ?_)⟩
    · exact ⟨_, rfl, k r (.inl ⟨fun z => hk (congrArg V.str z), hr1⟩) a1 H1 g1 (by omega) p1 bb⟩
    have hk : kd = "day" := V.str.inj hk
    refine ⟨_, rfl, rfl, _, rfl, ifC (fun h2 => ?_) (fun h2 => ?_)⟩
    · exact ⟨_, rfl, k r (.inr ⟨hk, .inl (V.str.inj h2)⟩) a1 H1 g1 (by omega) p1 bb⟩
    have h2 : ¬ r = "keep" := fun z => h2 (congrArg V.str z)
    refine ⟨_, rfl, _, rfl, d, l, a1, st, rfl, p1, by omega, h0, h1, fun b e b0 be e1 a2 H2 g3 g4 p2 b2 u hu hu2 => ⟨u, _, rfl, SqT.of hu2, rfl, _, _, rfl, _, _, rfl, rfl, ?_⟩⟩
    have sb : small b := small_of (by omega)
    have se : small e := small_of (by omega)
    have l2 : (Str.ofString (toString b)).length ≤ 61 := small_len sb
    have l3 : (Str.ofString (toString e)).length ≤ 61 := small_len se
    have gg : (" " : Str).length = 1 := by decide +kernel
    refine ⟨_, rfl, _, _, rfl, rfl, fitL (by omega), _, rfl, _, rfl, small_log sb, _, _, rfl, rfl, fitL (by simp only [len_app]; omega), _, _, rfl, rfl, fitL (by simp only [len_app]; omega), _, rfl, _, rfl, small_log se, _, _, rfl, rfl, fitL (by simp only [len_app]; omega), ?_⟩
    exact k _ (.inr ⟨hk, .inr ⟨r, hk ▸ hr1, h2, b, e, b0, be, e1, rfl⟩⟩) a2 H2 (by omega) (by omega) p2 (bb.trans b2)
end
end Wd
end
section
set_option Elab.async false
set_option linter.all false
set_option maxRecDepth 100000
set_option maxHeartbeats 1000000
namespace Wd
open PySem PySem.Spec PyProof.Rows L2 Wt TL NumText
theorem joinL_flat : ∀ l : List (List Nat), joinL [] l = l.flatten
  | [] => rfl
  | [p] => by simp [joinL]
  | p :: q :: r => by
    show p ++ ([] ++ joinL [] (q :: r)) = _
    rw [joinL_flat (q :: r)]
    simp
theorem join_flat (ys : List Str) : tl (Txt.join (Str.ofString "") ys) = (ys.map tl).flatten := by
  have e0 : tl (Str.ofString "") = [] := by decide +kernel
  rw [join_eq, tl_join, e0, joinL_flat]
theorem L26 : ("abcdefghijklmnopqrstuvwxyz" : Str).cps.toList = (List.range 26).map (97 + ·) := by decide +kernel
/-- the word of the place j -/
def WordAt (s : List Nat) (p : Nat) (fr st : Int) (j : Nat) (z : Str) : Prop :=
  ∃ suf : List Nat, (suf = [] ∨ suf = [97] ∨ suf = [122, 122]) ∧ tl z = s.take p ++ ((97 + ((fr + st * (j : Int)) % 26).toNat) :: (s.drop p ++ suf))
def steps12 : List Int := [1, 3, 5, 7, 9, 11, 15, 17, 19, 21, 23, 25]
/-- a drawn name: no longer than 11 -/
def nameD (l : List Nat) : Prop := nameL l ∧ l.length ≤ 11
theorem word_name {s : List Nat} {p : Nat} {fr st : Int} {j : Nat} {z : Str} (hs : ∀ c ∈ s, 97 ≤ c ∧ c ≤ 122) (hl : s.length ≤ 8) (hp : p ≤ s.length) (h : WordAt s p fr st j z) : nameD (tl z) := by
  obtain ⟨suf, hsuf, e⟩ := h
  have m1 : (fr + st * (j : Int)) % 26 < 26 := Int.emod_lt_of_pos _ (by decide)
  have m0 : 0 ≤ (fr + st * (j : Int)) % 26 := Int.emod_nonneg _ (by decide)
  have lsuf : suf.length ≤ 2 ∧ ∀ c ∈ suf, 97 ≤ c ∧ c ≤ 122 := by
    rcases hsuf with rfl | rfl | rfl
    · exact ⟨by decide, fun c hc => by cases hc⟩
    · exact ⟨by decide, by decide⟩
    · exact ⟨by decide, by decide⟩
  rw [e]
  refine ⟨⟨by simp, ?_, ?_⟩, ?_⟩
  · simp only [List.length_append, List.length_cons, List.length_take, List.length_drop]
    have := lsuf.1
    omega
  · intro c hc
    simp only [List.mem_append, List.mem_cons] at hc
    rcases hc with hc | hc | hc | hc
    · exact hs c (List.mem_of_mem_take hc)
    · omega
    · exact hs c (List.mem_of_mem_drop hc)
    · exact lsuf.2 c hc
  · simp only [List.length_append, List.length_cons, List.length_take, List.length_drop]
    have := lsuf.1
    omega
theorem word_apart {s : List Nat} {p : Nat} {fr st : Int} {i j : Nat} {z : Str} (hst : st ∈ steps12) (hp : p ≤ s.length) (hi : i < 26) (hj : j < 26) (h : WordAt s p fr st i z) (h' : WordAt s p fr st j z) : i = j := by
  obtain ⟨u, _, e⟩ := h
  obtain ⟨u', _, e'⟩ := h'
  rw [e] at e'
  have e2 := congrArg (fun l : List Nat => l[p]?) e'
  have lt : (s.take p).length = p := by rw [List.length_take]; omega
  simp only [List.getElem?_append_right (show (s.take p).length ≤ p by omega), lt, Nat.sub_self, List.getElem?_cons_zero, Option.some.injEq] at e2
  have m0 : 0 ≤ (fr + st * (i : Int)) % 26 := Int.emod_nonneg _ (by decide)
  have m1 : 0 ≤ (fr + st * (j : Int)) % 26 := Int.emod_nonneg _ (by decide)
  have e3 : (fr + st * (i : Int)) % 26 = (fr + st * (j : Int)) % 26 := by omega
  simp only [steps12, List.mem_cons, List.not_mem_nil, or_false] at hst
  rcases hst with rfl | rfl | rfl | rfl | rfl | rfl | rfl | rfl | rfl | rfl | rfl | rfl <;> omega
theorem words_nodup {s : List Nat} {p : Nat} {fr st : Int} {ws : List Str} (hst : st ∈ steps12) (hp : p ≤ s.length) (hl : ws.length ≤ 26) (h : ∀ j z, ws[j]? = some z → WordAt s p fr st j z) : ws.Nodup := by
  refine List.pairwise_iff_getElem.mpr fun i j hi hj hij e => ?_
  have h1 := h i _ (List.getElem?_eq_getElem hi)
  have h2 := h j _ (List.getElem?_eq_getElem hj)
  rw [e] at h1
  have := word_apart hst hp (by omega) (by omega) h1 h2
  omega
theorem cut_to {z : Str} {k : Nat} (hk : k ≤ (tl z).length) : tl (cutS z none (some (k : Int))) = (tl z).take k := by
  show List.take _ (List.drop _ (tl z)) = _
  have e : z.length = (tl z).length := len_tl z
  rw [HT.sIx_none, HT.sIx_nat, List.drop_zero, e]
  rw [Nat.sub_zero, Nat.min_eq_left hk]
theorem cut_from {z : Str} {k : Nat} (hk : k ≤ (tl z).length) : tl (cutS z (some (k : Int)) none) = (tl z).drop k := by
  show List.take _ (List.drop _ (tl z)) = _
  have e : z.length = (tl z).length := len_tl z
  rw [HT.sIx_none, HT.sIx_nat, e, Nat.min_eq_left hk]
  exact List.take_of_length_le (by rw [List.length_drop]; exact Nat.le_refl _)
def spWords : Sp := fun vs H Q _ => ∃ (d l : Addr) (a : Int) (n : Nat), vs = [.ref d, .int (n : Int)] ∧ Pen H d l a ∧ a ≤ 80000 ∧ n ≤ 26 ∧
  ∀ ws : List Str, ws.length = n → (∀ z ∈ ws, nameD (tl z)) → ws.Nodup → Drawn d l a 50 H fun _ H' => ∀ u, H u = none → H' u = some (.lst (ws.map V.str)) → Q (.ref u) H'
theorem sum_ones : ∀ ys : List Str, (∀ y ∈ ys, ∃ c, y = ⟨#[c]⟩ ∧ 97 ≤ c ∧ c ≤ 122) → (ys.map (·.length)).sum = ys.length ∧ (ys.map tl).flatten.length = ys.length ∧ ∀ c ∈ (ys.map tl).flatten, 97 ≤ c ∧ c ≤ 122
  | [], _ => ⟨rfl, rfl, fun c hc => by cases hc⟩
  | y :: r, h => by
    obtain ⟨i1, i2, i3⟩ := sum_ones r fun z hz => h z (List.mem_cons_of_mem _ hz)
    obtain ⟨c, rfl, h1, h2⟩ := h y List.mem_cons_self
    refine ⟨?_, ?_, ?_⟩
    · simp only [List.map_cons, List.sum_cons, List.length_cons]
      rw [i1, show (⟨#[c]⟩ : Str).length = 1 from rfl]
      omega
    · simp only [List.map_cons, List.flatten_cons, List.length_append, List.length_cons]
      rw [i2, show (tl ⟨#[c]⟩).length = 1 from rfl]
      omega
    · intro x hx
      simp only [List.map_cons, List.flatten_cons, List.mem_append] at hx
      rcases hx with hx | hx
      · have : x = c := by simpa [tl] using hx
        subst this
        exact ⟨h1, h2⟩
      · exact i3 x hx
section
variable {P : Program} {w : World} {K : PySem.W.Frag} {mg : Str → Option Value} {base : Heap} {f : Addr} {fd : FuncData}
theorem scWords : FnScope ["_law_pen_here", "_law_many", "_law_letters", "_law_k", "_law_stem", "_law_spot", "_law_front", "_law_step", "_law_found", "_law_letter"] ["_law_pen_here", "_law_many"] (defScope (top i__law_words)) := ⟨rfl, rfl, rfl, by decide +kernel, rfl, by decide +kernel, by decide +kernel⟩
theorem ok_words (F : FnG K "_law_words" i__law_words f fd) (T : Tx K mg) (D : DDraw P w K mg base) : FnOk P w K mg base CX0 4 f fd ["_law_pen_here", "_law_many"] spWords := by
  refine F.ok scWords (fun vs H Q E h => ?_) (fun cdv A outer s H vs Q E hr h => ?_)
  · obtain ⟨d, l, a, n, rfl, _⟩ := h
    rfl
  · obtain ⟨d, l, a, n, rfl, hp, ha, hn, k⟩ := h
    refine ⟨_, PSs.nox (pss_cons (ps_set (i := 2) scWords.nd rfl (Or.inr rfl) pe_str)
        (pss_cons (ps_set (i := 4) scWords.nd rfl (Or.inl rfl) (pe_join pe_str (pe_lc (own := [("_law_k", 3)]) rfl scWords.nd (pi_range1 (by rfl) T.range (pa_cons (pe_cd D.law_draw (hr.mono (by decide)) pass0 (pa_cons (pv 0) (pa_cons pe_int pa_nil))) pa_nil)) (blkOk_by (own := [("_law_k", 3)]) (N := ["_law_pen_here", "_law_many", "_law_letters", "_law_k", "_law_stem", "_law_spot", "_law_front", "_law_step", "_law_found", "_law_letter"]) (sc := defScope (top i__law_words)) (by decide +kernel)) (fun _ _ _ _ _ => (pg_name (i := 3) scWords.nd rfl (Or.inl rfl))) (fun _ _ _ _ _ => pts_nil) (fun _ _ _ _ _ => (pe_cd D.law_pick (hr.mono (by decide)) pass0 (pa_cons (pv 0) (pa_cons (pv 2) pa_nil)))))))
        (pss_cons (ps_par (i := 5) (j := 6) (by rfl) scWords.nd rfl rfl (by decide) rfl rfl (pa_cons (pe_cd D.law_draw (hr.mono (by decide)) pass0 (pa_cons (pv 0) (pa_cons (pe_op op_add (pe_callB call_len_str (by rfl) T.len PySem.boot_len (pa_cons (pv 4) pa_nil)) pe_int) pa_nil))) (pa_cons (pe_cd D.law_draw (hr.mono (by decide)) pass0 (pa_cons (pv 0) (pa_cons pe_int pa_nil))) pa_nil)) (by rfl))
        (pss_cons (ps_par (i := 7) (j := 8) (by rfl) scWords.nd rfl rfl (by decide) rfl rfl (pa_cons (pe_cd D.law_pick (hr.mono (by decide)) pass0 (pa_cons (pv 0) (pa_cons (pe_lst (pa_cons pe_int (pa_cons pe_int (pa_cons pe_int (pa_cons pe_int (pa_cons pe_int (pa_cons pe_int (pa_cons pe_int (pa_cons pe_int (pa_cons pe_int (pa_cons pe_int (pa_cons pe_int (pa_cons pe_int pa_nil))))))))))))) pa_nil))) (pa_cons (pe_lst pa_nil) pa_nil)) (by rfl))
        (pss_cons (ps_for PassesOwn.never rfl (pi_range1 (by rfl) T.range (pa_cons (pv 1) pa_nil)) (pg_name (i := 3) scWords.nd rfl (Or.inl rfl)) (pss_cons (ps_set (i := 9) scWords.nd rfl (Or.inl rfl) (pe_ix ix_str (pv 2) (pe_op op_mod (pe_callTy call_int1 (by rfl) T.int (by decide +kernel) (pa_cons (pe_op op_add (pv 6) (pe_op op_mul (pv 7) (pv 3))) pa_nil)) pe_int) (fun _ _ => rfl)))
        (pss_one (ps_expr (pe_bm PySem.F.plainAttrs_list PySem.F.slot_list_append PySem.F.type_list_append mt_append (pv 8) (pa_cons (pe_op op_add_str (pe_op op_add_str (pe_op op_add_str (pe_slice sl_str (pv 4) po_none (po_some (pv 5))) (pv 9)) (pe_slice sl_str (pv 4) (po_some (pv 5)) po_none)) (pe_ix ix_list (pe_lst (pa_cons pe_str (pa_cons pe_str (pa_cons pe_str pa_nil)))) (pe_cd D.law_draw (hr.mono (by decide)) pass0 (pa_cons (pv 0) (pa_cons pe_int pa_nil))) (fun _ _ => rfl))) pa_nil))))))
        (pss_one (ps_ret (pv 8)))))))), ?_⟩
    refine ⟨⟨_, rfl⟩, ?_⟩
    refine ⟨_, rfl, d, l, a, _, rfl, hp, by omega, by decide, by decide, fun r a1 H1 r0 rn g1 g2 p1 b1 => ?_⟩
    refine ⟨r, rfl, by omega, by omega, fun D1 hD => lc_range (lo := 0) (n := r.toNat)
      (fun i H4 => ∃ (ys : List Str) (a4 : Int), H4 D1 = some (.lst (ys.map V.str)) ∧ ys.length = i ∧ (∀ y ∈ ys, ∃ c, y = (⟨#[c]⟩ : Str) ∧ 97 ≤ c ∧ c ≤ 122) ∧ Pen H4 d l a4 ∧ a ≤ a4 ∧ a4 ≤ a + 1 + i ∧ But d H H4)
      ⟨[], a1, upd_same, rfl, (fun y hy => by cases hy), p1.same (same_upd hD), by omega, by omega, b1.trans (But.same (same_upd hD))⟩ ?_ ?_⟩
    · rintro i H4 hi ⟨ys, a4, l4, hy, h1, p4, g5, g6, b4⟩
      have nd : D1 ≠ d := p1.ne hD
      have hD0 : H D1 = none := b1.free p1 hD
      refine ⟨rfl, ?_⟩
      refine iteT (B := ∃ (ys : List Str) (a4 : Int), H4 D1 = some (.lst (ys.map V.str)) ∧ ys.length = i + 1 ∧ (∀ y ∈ ys, ∃ c, y = (⟨#[c]⟩ : Str) ∧ 97 ≤ c ∧ c ≤ 122) ∧ Pen H4 d l a4 ∧ a ≤ a4 ∧ a4 ≤ a + 1 + ((i + 1 : Nat) : Int) ∧ But d H H4) ?_
      refine ⟨_, rfl, _, rfl, d, l, a4, _, rfl, p4, by omega, .inr ⟨_, rfl, (by decide +kernel), (by decide +kernel), fun c a5 H5 hc g7 g8 p5 b5 => ?_⟩⟩
      have l5 := b5 D1 _ l4 nd
      refine ⟨_, l5, by rw [List.length_map, sizeLine_eq]; omega, ys ++ [⟨#[c]⟩], a5, by rw [upd_same, List.map_append]; rfl, by rw [List.length_append, hy]; rfl, fun y hy2 => ?_, hp.new hD0 p5, by omega, by omega, But.new hD0 (b4.trans b5)⟩
      rcases List.mem_append.mp hy2 with h | h
      · exact h1 y h
      · refine ⟨c, List.mem_singleton.mp h, ?_⟩
        rw [L26, List.mem_map] at hc
        obtain ⟨q, hq, rfl⟩ := hc
        have := List.mem_range.mp hq
        omega
    rintro H4 ⟨ys, a4, l4, hy, h1, p4, g5, g6, b4⟩
    obtain ⟨so1, so2, so3⟩ := sum_ones ys h1
    have jf := join_flat ys
    have ly : ys.length ≤ 8 := by omega
    refine ⟨_, D1, ys, rfl, rfl, .inl (SqL.of l4), ?_, ?_⟩
    · rw [so1, show (Str.ofString "").length = 0 from by decide +kernel]
      omega
    generalize Txt.join (Str.ofString "") ys = stem at jf ⊢
    have hs : ∀ c ∈ tl stem, 97 ≤ c ∧ c ≤ 122 := by rw [jf]; exact so3
    have hl8 : (tl stem).length ≤ 8 := by rw [jf, so2]; exact ly
    have ls : stem.length ≤ 8 := by rw [len_tl]; exact hl8
    refine ⟨_, rfl, _, rfl, _, rfl, fitL (by omega), _, _, rfl, rfl, d, l, a4, _, rfl, p4, by omega, by omega, by omega, fun sp a5 H5 sp0 sp1 g7 g8 p5 b5 => ?_⟩
    refine ⟨_, rfl, d, l, a5, _, rfl, p5, by omega, by decide, by decide, fun fr a6 H6 fr0 fr1 g9 g10 p6 b6 => ⟨_, _, rfl, ?_⟩⟩
    have b6' : But d H H6 := b4.trans (b5.trans b6)
    refine ⟨_, rfl, (by show 12 ≤ sizeLine; decide), fun t ht => ?_⟩
    have s1 := same_upd (o := .lst (steps12.map V.int)) ht
    refine ⟨d, l, a6, _, rfl, p6.same s1, by omega, .inl ⟨t, steps12.map V.int, rfl, p6.ne ht, upd_same, by decide, by decide, fun x a7 H7 hx g11 g12 p7 b7 => ?_⟩⟩
    obtain ⟨st, hst, rfl⟩ := List.mem_map.mp hx
    have b7' : But d H H7 := b6'.trans ((But.same s1).trans b7)
    refine ⟨(by show 0 ≤ sizeLine; decide), fun fo hfo => ⟨_, _, rfl, ?_⟩⟩
    have hfo0 : H fo = none := b7'.free p7 hfo
    obtain ⟨p, rfl⟩ := Int.eq_ofNat_of_zero_le sp0
    have hp8 : p ≤ (tl stem).length := by
      rw [← len_tl]
      omega
    have stb : -100 ≤ st ∧ st ≤ 100 := by
      have : ∀ y ∈ steps12, -100 ≤ y ∧ y ≤ 100 := by decide
      exact this st hst
    refine ⟨_, rfl, (n : Int), rfl, by omega, by omega, for_range (lo := 0) (n := (n : Int).toNat)
      (fun i σ H' => ∃ (x3 x9 : Option V) (ws : List Str) (a' : Int), σ = [some (.ref d), some (.int (n : Int)), some (.str "abcdefghijklmnopqrstuvwxyz"), x3, some (.str stem), some (.int (p : Int)), some (.int fr), some (.int st), some (.ref fo), x9] ∧
        Pen H' d l a' ∧ a ≤ a' ∧ a' ≤ a + 20 + i ∧ But d H H' ∧ H' fo = some (.lst (ws.map V.str)) ∧ ws.length = i ∧ ∀ j z, ws[j]? = some z → WordAt (tl stem) p fr st j z)
      ⟨none, none, [], a7, rfl, p7.same (same_upd hfo), by omega, by omega, b7'.trans (But.same (same_upd hfo)), upd_same, rfl, fun j z e => by simp at e⟩ ?_ ?_⟩
    · rintro i σ H8 hi ⟨x3, x9, ws, a8, rfl, p8, g13, g14, b8, q8, lw, hw⟩
      have hi' : i < n := by simpa using hi
      have m1 : (fr + st * ((0 : Int) + (i : Int))) % 26 < 26 := Int.emod_lt_of_pos _ (by decide)
      have m0 : 0 ≤ (fr + st * ((0 : Int) + (i : Int))) % 26 := Int.emod_nonneg _ (by decide)
      obtain ⟨m, hm⟩ := Int.eq_ofNat_of_zero_le m0
      have hat : atI ("abcdefghijklmnopqrstuvwxyz" : Str).cps.toList ((fr + st * ((0 : Int) + (i : Int))) % 26) = some (97 + m) := by
        rw [hm, L26]
        refine atI_nat ?_
        rw [List.getElem?_map, List.getElem?_range (by omega)]
        rfl
      refine ⟨_, rfl, _, rfl, _, rfl, _, rfl, _, _, rfl, rfl, .inl ⟨by omega, by omega⟩, _, _, rfl, rfl, .inl ⟨_, rfl, _, _, rfl, rfl, (by show (0 : Int) < 26; decide), _, _, _, rfl, rfl, (by decide +kernel), hat, ?_⟩⟩
      have lc1 := cut_to (z := stem) hp8
      have lc2 := cut_from (z := stem) hp8
      have ln1 : (cutS stem none (some (p : Int))).length ≤ 8 := by rw [len_tl, lc1, List.length_take]; omega
      have ln2 : (cutS stem (some (p : Int)) none).length ≤ 8 := by rw [len_tl, lc2, List.length_drop]; omega
      have l1 : (⟨#[97 + m]⟩ : Str).length = 1 := rfl
      refine ⟨_, rfl, tyL q8, _, rfl, _, rfl, _, rfl, _, rfl, fitL (by omega), _, rfl, _, _, rfl, rfl, fitL (by omega), _, rfl, _, rfl, _, rfl, _, rfl, fitL (by omega), _, _, rfl, rfl, fitL (by simp only [len_app]; omega), (by show 3 ≤ sizeLine; decide), fun t2 ht2 => ?_⟩
      have ht0 : H t2 = none := b8.free p8 ht2
      have s2 := same_upd (o := .lst [.str "", .str "a", .str "zz"]) ht2
      refine ⟨_, rfl, d, l, a8, _, rfl, p8.same s2, by omega, by decide, by decide, fun q a9 H9 q0 q3 g15 g16 p9 b9 => ?_⟩
      have e9 := b9 t2 _ upd_same ((p8.same s2).dne upd_same)
      obtain ⟨sf, hsf, hc⟩ : ∃ sf : Str, atI [V.str "", .str "a", .str "zz"] q = some (.str sf) ∧ (tl sf = [] ∨ tl sf = [97] ∨ tl sf = [122, 122]) := by
        have : q = 0 ∨ q = 1 ∨ q = 2 := by omega
        rcases this with rfl | rfl | rfl
        · exact ⟨_, rfl, .inl (by decide +kernel)⟩
        · exact ⟨_, rfl, .inr (.inl (by decide +kernel))⟩
        · exact ⟨_, rfl, .inr (.inr (by decide +kernel))⟩
      have lsf : sf.length ≤ 2 := by
        rw [len_tl]
        rcases hc with h | h | h <;> rw [h] <;> decide
      have b9' : But d H H9 := b8.trans ((But.same s2).trans b9)
      have q9 : H9 fo = some (.lst (ws.map V.str)) := b9 fo _ (s2 fo _ q8) (p8.dne q8)
      refine ⟨t2, _, _, _, rfl, rfl, SqL.of e9, hsf, _, _, rfl, rfl, fitL (by simp only [len_app]; omega), fo, _, _, rfl, rfl, q9, by rw [List.length_map, sizeLine_eq]; omega, ?_⟩
      refine ⟨_, _, ws ++ [_], a9, rfl, hp.new hfo0 p9, by omega, by omega, But.new hfo0 b9', by rw [upd_same, List.map_append]; rfl, by rw [List.length_append, lw]; rfl, fun j z e => ?_⟩
      rw [List.getElem?_append] at e
      split at e
      · exact hw j z e
      · have : j = i := by
          have := (List.getElem?_eq_some_iff.mp e).1
          rw [List.length_singleton] at this
          omega
        subst this
        rw [lw, Nat.sub_self] at e
        have e := Option.some.inj e
        subst e
        refine ⟨tl sf, hc, ?_⟩
        have hm2 : ((fr + st * (j : Int)) % 26).toNat = m := by
          rw [Int.zero_add] at hm
          rw [hm]
          rfl
        rw [hm2]
        simp only [tl_append, lc1, lc2]
        simp [tl]
    · rintro σ H8 ⟨x3, x9, ws, a8, rfl, p8, g13, g14, b8, q8, lw, hw⟩
      have lw' : ws.length = n := by simpa using lw
      refine ⟨_, rfl, k ws lw' (fun z hz => ?_) (words_nodup hst hp8 (by omega) hw) a8 H8 g13 (by omega) p8 b8 fo hfo0 q8⟩
      obtain ⟨j, hj⟩ := List.mem_iff_getElem?.mp hz
      exact word_name hs hl8 hp8 (hw j z hj)
end
end Wd
end
section
set_option Elab.async false
set_option linter.all false
set_option maxRecDepth 100000
set_option maxHeartbeats 1000000
namespace Wd
open PySem PySem.Spec PyProof.Rows L2 Wt TL NumText
/-- the same places of two lists -/
inductive All2 {α β : Type} (R : α → β → Prop) : List α → List β → Prop
  | nil : All2 R [] []
  | cons {x : α} {y : β} {xs : List α} {ys : List β} : R x y → All2 R xs ys → All2 R (x :: xs) (y :: ys)
section
variable {α β : Type} {R S : α → β → Prop}
theorem All2.len : ∀ {xs : List α} {ys : List β}, All2 R xs ys → xs.length = ys.length
  | _, _, .nil => rfl
  | _, _, .cons _ h => by rw [List.length_cons, List.length_cons, h.len]
theorem All2.mono (f : ∀ x y, R x y → S x y) : ∀ {xs : List α} {ys : List β}, All2 R xs ys → All2 S xs ys
  | _, _, .nil => .nil
  | _, _, .cons h t => .cons (f _ _ h) (t.mono f)
theorem All2.app : ∀ {xs xs' : List α} {ys ys' : List β}, All2 R xs ys → All2 R xs' ys' → All2 R (xs ++ xs') (ys ++ ys')
  | _, _, _, _, .nil, h => h
  | _, _, _, _, .cons h t, h' => .cons h (t.app h')
theorem All2.snoc {xs : List α} {ys : List β} {x : α} {y : β} (h : All2 R xs ys) (r : R x y) : All2 R (xs ++ [x]) (ys ++ [y]) := h.app (.cons r .nil)
theorem All2.at : ∀ {xs : List α} {ys : List β} {i : Nat} {x : α}, All2 R xs ys → xs[i]? = some x → ∃ y, ys[i]? = some y ∧ R x y
  | _, _, _, _, .nil, e => by simp at e
  | _, _, 0, _, .cons h _, e => by
    have e := Option.some.inj e
    subst e
    exact ⟨_, rfl, h⟩
  | _, _, i + 1, _, .cons _ t, e => t.at (i := i) (by simpa using e)
theorem All2.take : ∀ (n : Nat) {xs : List α} {ys : List β}, All2 R xs ys → All2 R (xs.take n) (ys.take n)
  | 0, _, _, _ => by simpa using All2.nil
  | _ + 1, _, _, .nil => by simpa using All2.nil
  | n + 1, _, _, .cons h t => by simpa using All2.cons h (t.take n)
theorem All2.perm {xs' xs : List α} (p : xs'.Perm xs) : ∀ {ys : List β}, All2 R xs ys → ∃ ys' : List β, ys'.Perm ys ∧ All2 R xs' ys' := by
  induction p with
  | nil => exact fun h => ⟨_, List.Perm.refl _, h⟩
  | cons x _ ih =>
    intro ys h
    cases h with
    | cons r t =>
      obtain ⟨ys', p', h'⟩ := ih t
      exact ⟨_, p'.cons _, .cons r h'⟩
  | swap x y l =>
    intro ys h
    cases h with
    | cons r t =>
      cases t with
      | cons r2 t2 => exact ⟨_, List.Perm.swap _ _ _, .cons r2 (.cons r t2)⟩
  | trans _ _ ih1 ih2 =>
    intro ys h
    obtain ⟨y1, p1, h1⟩ := ih2 h
    obtain ⟨y2, p2, h2⟩ := ih1 h1
    exact ⟨y2, p2.trans p1, h2⟩
end
theorem All2.mapL {α β γ : Type} {R : γ → β → Prop} {f : α → γ} : ∀ {xs : List α} {ys : List β}, All2 (fun x y => R (f x) y) xs ys → All2 R (xs.map f) ys
  | _, _, .nil => .nil
  | _, _, .cons h t => .cons h t.mapL
/-- a row of a drawn net: its name, its home, the rule of each kind -/
structure DRow where
  name : Str
  home : Str
  day : Str
  flo : Str
  zon : Str
  fix : Str
/-- a net as it is drawn -/
structure DNet where
  told : List (Str × Int)
  rows : List DRow
  routes : List (Str × Str)
def DNet.names (N : DNet) : List Str := N.rows.map DRow.name
/-- at v a pair of texts -/
def PairS (H : Hp) (v : V) (p : Str × Str) : Prop := ∃ a, v = .ref a ∧ H a = some (.tup [.str p.1, .str p.2])
def PairI (H : Hp) (v : V) (p : Str × Int) : Prop := ∃ a, v = .ref a ∧ H a = some (.tup [.str p.1, .int p.2])
def rowD (r : DRow) : List (Key × V) := [(.inr "day", .str r.day), (.inr "float", .str r.flo), (.inr "zoned", .str r.zon), (.inr "fixed", .str r.fix)]
def RowH (d : Addr) (H : Hp) (v : V) (r : DRow) : Prop := ∃ a b, v = .ref a ∧ H a = some (.tup [.str r.name, .str r.home, .ref b]) ∧ b ≠ d ∧ H b = some (.dK (rowD r))
/-- at t the drawn net -/
structure NetH (d : Addr) (H : Hp) (t : Addr) (N : DNet) : Prop where
  parts : ∃ (lt lr lo : Addr) (vt vr vo : List V), H t = some (.tup [.ref lt, .ref lr, .ref lo]) ∧ H lt = some (.lst vt) ∧ H lr = some (.lst vr) ∧ H lo = some (.lst vo) ∧
    All2 (PairI H) vt N.told ∧ All2 (RowH d H) vr N.rows ∧ All2 (PairS H) vo N.routes
section
variable {d l : Addr} {a : Int} {H H' : Hp}
theorem keepT {c : Addr} {xs : List V} (p : Pen H d l a) (b : But d H H') (h : H c = some (.tup xs)) : H' c = some (.tup xs) := b c _ h (p.dnt h)
theorem keepL {c : Addr} {xs : List V} (p : Pen H d l a) (b : But d H H') (h : H c = some (.lst xs)) : H' c = some (.lst xs) := b c _ h (p.dne h)
theorem PairS.but (p : Pen H d l a) (b : But d H H') {v : V} {x : Str × Str} (h : PairS H v x) : PairS H' v x := by
  obtain ⟨c, e, q⟩ := h
  exact ⟨c, e, keepT p b q⟩
theorem PairI.but (p : Pen H d l a) (b : But d H H') {v : V} {x : Str × Int} (h : PairI H v x) : PairI H' v x := by
  obtain ⟨c, e, q⟩ := h
  exact ⟨c, e, keepT p b q⟩
theorem RowH.but (p : Pen H d l a) (b : But d H H') {v : V} {x : DRow} (h : RowH d H v x) : RowH d H' v x := by
  obtain ⟨c, e, h1, h2, h3, h4⟩ := h
  exact ⟨c, e, h1, keepT p b h2, h3, b e _ h4 h3⟩
theorem NetH.but (p : Pen H d l a) (b : But d H H') {t : Addr} {N : DNet} (h : NetH d H t N) : NetH d H' t N := by
  obtain ⟨lt, lr, lo, vt, vr, vo, h1, h2, h3, h4, h5, h6, h7⟩ := h.parts
  exact ⟨lt, lr, lo, vt, vr, vo, keepT p b h1, keepL p b h2, keepL p b h3, keepL p b h4, h5.mono fun _ _ z => z.but p b, h6.mono fun _ _ z => z.but p b, h7.mono fun _ _ z => z.but p b⟩
end
/-- the goals of a program's routes, in the order of the net -/
def goals (rs : List (Str × Str)) (p : Str) : List Str := (rs.filter fun r => r.1 == p).map Prod.snd
def spNames : Sp := fun vs H Q _ => ∃ (d t : Addr) (N : DNet), vs = [.ref t] ∧ NetH d H t N ∧ N.rows.length ≤ 100 ∧ ∀ u H', Same H H' → H u = none → H' u = some (.lst (N.names.map V.str)) → Q (.ref u) H'
def spTargets : Sp := fun vs H Q _ => ∃ (d t : Addr) (N : DNet) (p : Str), vs = [.ref t, .str p] ∧ NetH d H t N ∧ N.routes.length ≤ 100 ∧ ∀ u H', Same H H' → H u = none → H' u = some (.lst ((goals N.routes p).map V.str)) → Q (.ref u) H'
section
variable {P : Program} {w : World} {K : PySem.W.Frag} {mg : Str → Option Value} {base : Heap} {f : Addr} {fd : FuncData}
theorem scNames : FnScope ["_law_net_here", "_law_name", "_law_home_here", "_law_rules"] ["_law_net_here"] (defScope (top i__law_names)) := ⟨rfl, rfl, rfl, by decide +kernel, rfl, by decide +kernel, by decide +kernel⟩
theorem ok_names (F : FnG K "_law_names" i__law_names f fd) (T : Tx K mg) : FnOk P w K mg base CX0 1 f fd ["_law_net_here"] spNames := by
  refine F.ok scNames (fun vs H Q E h => ?_) (fun cdv A outer s H vs Q E hr h => ?_)
  · obtain ⟨d, t, N, rfl, _⟩ := h
    rfl
  · obtain ⟨d, t, N, rfl, hN, hz, k⟩ := h
    refine ⟨_, PSs.nox (pss_one (ps_ret (pe_lc (own := [("_law_name", 1), ("_law_home_here", 2), ("_law_rules", 3)]) (g := gTup K 3 (gCons (gName 1) (gCons (gName 2) (gCons (gName 3) gNil)))) rfl scNames.nd (pi_list (pe_ix ix_tup (pv 0) pe_int (fun _ _ => rfl))) (blkOk_by (own := [("_law_name", 1), ("_law_home_here", 2), ("_law_rules", 3)]) (N := ["_law_net_here", "_law_name", "_law_home_here", "_law_rules"]) (sc := defScope (top i__law_names)) (by decide +kernel)) (fun _ _ _ _ _ => (pg_tup rfl (pgs_cons (pg_name (i := 1) scNames.nd rfl (Or.inl rfl) (Or.inr rfl)) (pgs_cons (pg_name (i := 2) scNames.nd rfl (Or.inl rfl) (Or.inr rfl)) (pgs_cons (pg_name (i := 3) scNames.nd rfl (Or.inl rfl) (Or.inr rfl)) pgs_nil))))) (fun _ _ _ _ _ => pts_nil) (fun _ _ _ _ _ => (pv 1))))), ?_⟩
    obtain ⟨lt, lr, lo, vt, vr, vo, h1, h2, h3, h4, h5, h6, h7⟩ := hN.parts
    have hlen := h6.len
    have hnl : N.names.length = N.rows.length := by rw [DNet.names, List.length_map]
    refine ⟨_, rfl, t, _, _, _, rfl, rfl, SqT.of h1, atI_nat (j := 1) rfl, lr, rfl, ⟨vr, SqL.of h3⟩, fun D hD => lc_list (xs := vr)
      (fun i H' => Same H H' ∧ H' D = some (.lst ((N.names.take i).map V.str))) ⟨same_upd hD, upd_same⟩ (fun i H' _ q => SqL.of (q.1 _ _ h3)) ?_ ?_⟩
    · rintro i x H1 hx ⟨s1, q1⟩
      obtain ⟨r, hr1, c, e, rfl, g1, g2, g3⟩ := h6.at hx
      refine ⟨c, _, rfl, SqT.of (s1 _ _ g1), rfl, _, _, rfl, _, _, rfl, _, _, rfl, rfl, rfl, ?_⟩
      refine iteT (B := Same H H1 ∧ H1 D = some (.lst ((N.names.take (i + 1)).map V.str))) ⟨_, rfl, _, q1, by rw [List.length_map, List.length_take, sizeLine_eq]; omega, ?_, ?_⟩
      · intro b o z
        rw [upd_ne (ne_of_none z hD)]
        exact s1 b o z
      · rw [upd_same]
        have lt2 : i < N.names.length := by
          have := (List.getElem?_eq_some_iff.mp hr1).1
          rw [DNet.names, List.length_map]
          exact this
        have e2 : N.names[i] = r.name := by
          have : N.names[i]? = some r.name := by rw [DNet.names, List.getElem?_map, hr1]; rfl
          rw [List.getElem?_eq_getElem lt2] at this
          exact Option.some.inj this
        rw [List.take_succ_eq_append_getElem lt2, List.map_append, e2]
        rfl
    · rintro H1 ⟨s1, q1⟩
      refine k D H1 s1 hD ?_
      rw [q1, List.take_of_length_le (by rw [DNet.names, List.length_map, hlen]; exact Nat.le_refl _)]
end
/-- one after the other by routes -/
def Chain (rs : List (Str × Str)) (ws : List Str) : Prop := ∀ i x y, ws[i]? = some x → ws[i + 1]? = some y → (x, y) ∈ rs
theorem Chain.one (rs : List (Str × Str)) (p : Str) : Chain rs [p] := fun i x y h1 h2 => by
  have := (List.getElem?_eq_some_iff.mp h2).1
  simp at this
theorem Chain.snoc {rs : List (Str × Str)} {ws : List Str} {x y : Str} (h : Chain rs (ws ++ [x])) (r : (x, y) ∈ rs) : Chain rs (ws ++ [x] ++ [y]) := fun i u v h1 h2 => by
  have lt := (List.getElem?_eq_some_iff.mp h2).1
  simp only [List.length_append, List.length_cons, List.length_nil] at lt
  by_cases e : i + 1 < (ws ++ [x]).length
  · rw [List.getElem?_append_left (by omega)] at h1
    rw [List.getElem?_append_left e] at h2
    exact h i u v h1 h2
  · simp only [List.length_append, List.length_cons, List.length_nil] at e
    have ei : i = ws.length := by omega
    subst ei
    rw [List.getElem?_append_left (by simp), List.getElem?_append_right (Nat.le_refl _), Nat.sub_self] at h1
    rw [List.getElem?_append_right (by simp)] at h2
    simp at h1 h2
    rw [← h1, ← h2]
    exact r
theorem goals_mem {rs : List (Str × Str)} {p y : Str} (h : y ∈ goals rs p) : (p, y) ∈ rs := by
  unfold goals at h
  obtain ⟨r, hr, rfl⟩ := List.mem_map.mp h
  obtain ⟨h1, h2⟩ := List.mem_filter.mp hr
  have : r.1 = p := by simpa using h2
  rw [← this]
  exact h1
theorem goals_len (rs : List (Str × Str)) (p : Str) : (goals rs p).length ≤ rs.length := by
  unfold goals
  rw [List.length_map]
  exact List.length_filter_le _ _
def spWalk : Sp := fun vs H Q _ => ∃ (d l t : Addr) (a : Int) (N : DNet) (p : Str) (m : Int), vs = [.ref d, .ref t, .str p, .int m] ∧ Pen H d l a ∧ a ≤ 80000 ∧ NetH d H t N ∧ N.routes.length ≤ 100 ∧ (∀ r ∈ N.routes, nameL (tl r.2)) ∧ 0 ≤ m ∧ m ≤ 100 ∧
  ∀ ws : List Str, ws[0]? = some p → Chain N.routes ws → (ws.length : Int) ≤ m + 1 → Drawn d l a (m + 1) H fun _ H' => ∀ u, H u = none → H' u = some (.tup (ws.map V.str)) → Q (.ref u) H'
theorem name_ok {z : Str} (h : nameL (tl z)) : PyData.strOk z = true := by
  show z.cps.all (fun x => decide (x < 0x110000)) = true
  rw [all_tl, List.all_eq_true]
  intro c hc
  have := h.2.2 c hc
  exact decide_eq_true (by omega)
theorem strs_shaped {zs : List Str} (hz : ∀ z ∈ zs, nameL (tl z)) : SeqAt.shaped (.list (zs.map PyData.str)) = true := by
  have h1 : ∀ zs : List Str, (∀ z ∈ zs, nameL (tl z)) → PyData.canLayAll0 (zs.map PyData.str) = true := fun zs => by
    induction zs with
    | nil => intro _; simp [PyData.canLayAll0]
    | cons z zs ih =>
      intro h
      simp [PyData.canLayAll0, PyData.canLay0, name_ok (h z List.mem_cons_self), ih fun y hy => h y (List.mem_cons_of_mem _ hy)]
  have h2 : ∀ zs : List Str, PyData.depthAll (zs.map PyData.str) ≤ 1 := fun zs => by
    induction zs with
    | nil => simp [PyData.depthAll]
    | cons z zs ih =>
      simp only [List.map_cons, PyData.depthAll, PyData.depth]
      omega
  have h3 : PyData.depth (.list (zs.map PyData.str)) ≤ 64 := by
    have := h2 zs
    simp only [PyData.depth]
    omega
  show (PyData.canLay0 (.list (zs.map PyData.str)) && decide (PyData.depth (.list (zs.map PyData.str)) ≤ 64)) = true
  rw [Bool.and_eq_true]
  exact ⟨by simp only [PyData.canLay0]; exact h1 zs hz, decide_eq_true h3⟩
theorem dp_strs {K : PySem.W.Frag} {H : Hp} : ∀ zs : List Str, DpAll K H (zs.map V.str) (zs.map PyData.str)
  | [] => .nil
  | z :: zs => .cons (.str z) (dp_strs zs)
section
variable {P : Program} {w : World} {K : PySem.W.Frag} {mg : Str → Option Value} {base : Heap} {f : Addr} {fd : FuncData}
structure DWalk (P : Program) (w : World) (K : PySem.W.Frag) (mg : Str → Option Value) (base : Heap) : Prop extends DDraw P w K mg base where
  law_targets : Df P w K mg base CX0 1 "_law_targets" ["_law_net_here", "_law_p"] spTargets
end
end Wd
end
section
set_option Elab.async false
set_option linter.all false
set_option maxRecDepth 100000
set_option maxHeartbeats 1000000
namespace Wd
open PySem PySem.Spec PyProof.Rows L2 Wt TL NumText
theorem seq_by {t1 t2 : TS} {D : Ends} {σ : L2.St} {H : Hp} (M : L2.St → Hp → Prop) (h1 : ∀ Nx : L2.St → Hp → Prop, (∀ σ' H', M σ' H' → Nx σ' H') → t1 { D with nx := Nx } σ H) (h2 : ∀ σ' H', M σ' H' → t2 D σ' H') : tSeq t1 t2 D σ H := h1 (t2 D) h2
theorem atI_neg1 {α : Type} {xs : List α} {v : α} (h : xs[xs.length - 1]? = some v) : atI xs (-1) = some v := by
  have lt := (List.getElem?_eq_some_iff.mp h).1
  unfold atI ixN
  rw [if_neg (by decide), if_pos (by omega)]
  show xs[(-1 + (xs.length : Int)).toNat]? = some v
  rw [show (-1 + (xs.length : Int)).toNat = xs.length - 1 by omega]
  exact h
theorem strAt {ns : List Str} {i : Nat} {x : Str} (h : ns[i]? = some x) : (ns.map V.str)[i]? = some (.str x) := by
  rw [List.getElem?_map, h]
  rfl
theorem nodup_at {α : Type} {ns : List α} (h : ns.Nodup) {i j : Nat} {x : α} (hi : ns[i]? = some x) (hj : ns[j]? = some x) : i = j := by
  obtain ⟨li, ei⟩ := List.getElem?_eq_some_iff.mp hi
  obtain ⟨lj, ej⟩ := List.getElem?_eq_some_iff.mp hj
  rcases Nat.lt_trichotomy i j with h1 | h1 | h1
  · exact absurd (ei.trans ej.symm) (List.pairwise_iff_getElem.mp h i j li lj h1)
  · exact h1
  · exact absurd (ej.trans ei.symm) (List.pairwise_iff_getElem.mp h j i lj li h1)
theorem PairS.put {H : Hp} {D : Addr} {zs ys : List V} {v : V} {p : Str × Str} (hD : H D = some (.lst zs)) (h : PairS H v p) : PairS (upd H D (.lst ys)) v p := by
  obtain ⟨c, e, q⟩ := h
  refine ⟨c, e, ?_⟩
  rw [upd_ne ?_]
  · exact q
  · rintro rfl
    rw [hD] at q
    cases q
theorem PairS.same {H H' : Hp} {v : V} {p : Str × Str} (s : Same H H') (h : PairS H v p) : PairS H' v p := by
  obtain ⟨c, e, q⟩ := h
  exact ⟨c, e, s _ _ q⟩
/-- at D a list of pairs, all before as it was -/
def Fnd (Hb H : Hp) (D : Addr) (fs : List (Str × Str)) : Prop := Same Hb H ∧ ∃ vs, H D = some (.lst vs) ∧ All2 (PairS H) vs fs
theorem Fnd.zero {Hb : Hp} {D : Addr} (hD : Hb D = none) : Fnd Hb (upd Hb D (.lst [])) D [] := ⟨same_upd hD, [], upd_same, .nil⟩
theorem Fnd.snoc {Hb H : Hp} {D t : Addr} {fs : List (Str × Str)} {x y : Str} (h : Fnd Hb H D fs) (hD : Hb D = none) (ht : H t = none) (hl : fs.length ≤ 1000) :
    ∃ acc, (upd H t (.tup [.str x, .str y])) D = some (.lst acc) ∧ acc.length < sizeLine ∧ Fnd Hb (upd (upd H t (.tup [.str x, .str y])) D (.lst (acc ++ [.ref t]))) D (fs ++ [(x, y)]) := by
  obtain ⟨s, vs, q, al⟩ := h
  have st := same_upd (o := .tup [.str x, .str y]) ht
  have q' := st _ _ q
  refine ⟨vs, q', by rw [al.len, sizeLine_eq]; omega, fun b o z => ?_, vs ++ [.ref t], upd_same, ?_⟩
  · rw [upd_ne (ne_of_none z hD)]
    exact st _ _ (s _ _ z)
  · refine (al.mono fun _ _ z => (z.same st).put q').snoc ⟨t, rfl, ?_⟩
    rw [upd_ne ?_]
    · exact upd_same
    · rintro rfl
      rw [upd_same] at q'
      cases q'
def pairD (x : Str × Str) : PyData := .tuple [.str x.1, .str x.2]
theorem pairD_eqv (x y : Str × Str) : PyData.eqv (pairD x) (pairD y) = decide (x = y) := by
  obtain ⟨a, b⟩ := x
  obtain ⟨c, e⟩ := y
  have z : PyData.eqv (pairD (a, b)) (pairD (c, e)) = ((a == c) && ((b == e) && true)) := by simp only [pairD, PyData.eqv, PyData.eqvAll]
  rw [z, Bool.eq_iff_iff]
  simp
theorem dp_pairs {K : PySem.W.Frag} {H : Hp} : ∀ {vs : List V} {fs : List (Str × Str)}, All2 (PairS H) vs fs → DpAll K H vs (fs.map pairD)
  | _, _, .nil => .nil
  | _, _, .cons ⟨c, e, q⟩ t => by
    subst e
    exact .cons (.tup (SqT.of q) (.cons (.str _) (.cons (.str _) .nil))) (dp_pairs t)
theorem pairs_shaped {fs : List (Str × Str)} (h : ∀ r ∈ fs, nameL (tl r.1) ∧ nameL (tl r.2)) : SeqAt.shaped (.list (fs.map pairD)) = true := by
  have h1 : ∀ fs : List (Str × Str), (∀ r ∈ fs, nameL (tl r.1) ∧ nameL (tl r.2)) → PyData.canLayAll0 (fs.map pairD) = true := fun fs => by
    induction fs with
    | nil => intro _; simp [PyData.canLayAll0]
    | cons z zs ih =>
      intro h
      have g := h z List.mem_cons_self
      simp [PyData.canLayAll0, pairD, PyData.canLay0, name_ok g.1, name_ok g.2]
      exact ih fun y hy => h y (List.mem_cons_of_mem _ hy)
  have h2 : ∀ fs : List (Str × Str), PyData.depthAll (fs.map pairD) ≤ 3 := fun fs => by
    induction fs with
    | nil => simp [PyData.depthAll]
    | cons z zs ih =>
      simp only [List.map_cons, PyData.depthAll, pairD, PyData.depth]
      omega
  have h3 : PyData.depth (.list (fs.map pairD)) ≤ 64 := by
    have := h2 fs
    simp only [PyData.depth]
    omega
  show (PyData.canLay0 (.list (fs.map pairD)) && decide (PyData.depth (.list (fs.map pairD)) ≤ 64)) = true
  rw [Bool.and_eq_true]
  exact ⟨by simp only [PyData.canLay0]; exact h1 fs h, decide_eq_true h3⟩
theorem pair_shaped {r : Str × Str} (h : nameL (tl r.1) ∧ nameL (tl r.2)) : SeqAt.shaped (pairD r) = true := by
  have h1 : (pairD r).canLay0 = true := by simp [pairD, PyData.canLay0, PyData.canLayAll0, name_ok h.1, name_ok h.2]
  have h2 : (pairD r).depth ≤ 64 := by
    simp only [pairD, PyData.depth, PyData.depthAll]
    omega
  show ((pairD r).canLay0 && decide ((pairD r).depth ≤ 64)) = true
  rw [Bool.and_eq_true]
  exact ⟨h1, decide_eq_true h2⟩
/-- the pairs that are drawn for a ring and for a chain there and back -/
def ringP (ns : List Str) (n : Nat) : List (Str × Str) := (List.range n).map fun k => (ns.getD (if k = 0 then ns.length - 1 else k - 1) Str.empty, ns.getD k Str.empty)
def upP (ns : List Str) (n : Nat) : List (Str × Str) := (List.range n).map fun k => (ns.getD k Str.empty, ns.getD (k + 1) Str.empty)
def downP (ns : List Str) (n : Nat) : List (Str × Str) := (List.range n).map fun k => (ns.getD (k + 1) Str.empty, ns.getD k Str.empty)
theorem getD_at {ns : List Str} {k : Nat} (h : k < ns.length) : ns[k]? = some (ns.getD k Str.empty) := by
  rw [List.getElem?_eq_getElem h, List.getD_eq_getElem?_getD, List.getElem?_eq_getElem h]
  rfl
theorem getD_mem {ns : List Str} {k : Nat} (h : k < ns.length) : ns.getD k Str.empty ∈ ns := List.mem_of_getElem? (getD_at h)
theorem getD_inj {ns : List Str} (hd : ns.Nodup) {i j : Nat} (hi : i < ns.length) (hj : j < ns.length) (e : ns.getD i Str.empty = ns.getD j Str.empty) : i = j :=
  nodup_at hd (getD_at hi) (by rw [e]; exact getD_at hj)
theorem map_nodup {β : Type} {f : Nat → β} {n : Nat} (h : ∀ i j, i < n → j < n → f i = f j → i = j) : ((List.range n).map f).Nodup := by
  refine List.pairwise_iff_getElem.mpr fun i j hi hj hij e => ?_
  simp only [List.length_map, List.length_range] at hi hj
  simp only [List.getElem_map, List.getElem_range] at e
  have := h i j hi hj e
  omega
def Among (ns : List Str) (fs : List (Str × Str)) : Prop := fs.Nodup ∧ ∀ r ∈ fs, r.1 ∈ ns ∧ r.2 ∈ ns
theorem ring_ok {ns : List Str} (hd : ns.Nodup) : Among ns (ringP ns ns.length) := by
  refine ⟨map_nodup fun i j hi hj e => getD_inj hd hi hj (congrArg Prod.snd e), fun r hr => ?_⟩
  obtain ⟨k, hk, rfl⟩ := List.mem_map.mp hr
  have hk := List.mem_range.mp hk
  refine ⟨getD_mem ?_, getD_mem hk⟩
  split <;> omega
theorem updown_ok {ns : List Str} (hd : ns.Nodup) : Among ns (upP ns (ns.length - 1) ++ downP ns (ns.length - 1)) := by
  refine ⟨List.nodup_append.mpr ⟨map_nodup fun i j hi hj e => getD_inj hd (by omega) (by omega) (congrArg Prod.fst e), map_nodup fun i j hi hj e => getD_inj hd (by omega) (by omega) (congrArg Prod.snd e), ?_⟩, fun r hr => ?_⟩
  · intro x hx y hy e
    obtain ⟨i, hi, rfl⟩ := List.mem_map.mp hx
    obtain ⟨j, hj, rfl⟩ := List.mem_map.mp hy
    have hi := List.mem_range.mp hi
    have hj := List.mem_range.mp hj
    have e1 := getD_inj hd (by omega) (by omega) (congrArg Prod.fst e)
    have e2 := getD_inj hd (by omega) (by omega) (congrArg Prod.snd e)
    omega
  · rcases List.mem_append.mp hr with hr | hr
    · obtain ⟨k, hk, rfl⟩ := List.mem_map.mp hr
      have hk := List.mem_range.mp hk
      exact ⟨getD_mem (by omega), getD_mem (by omega)⟩
    · obtain ⟨k, hk, rfl⟩ := List.mem_map.mp hr
      have hk := List.mem_range.mp hk
      exact ⟨getD_mem (by omega), getD_mem (by omega)⟩
theorem Among.take {ns : List Str} {fs : List (Str × Str)} (h : Among ns fs) (n : Nat) : Among ns (fs.take n) :=
  ⟨h.1.sublist (List.take_sublist _ _), fun r hr => h.2 r (List.mem_of_mem_take hr)⟩
theorem Among.snoc {ns : List Str} {fs : List (Str × Str)} {x y : Str} (h : Among ns fs) (hx : x ∈ ns) (hy : y ∈ ns) (hn : (x, y) ∉ fs) : Among ns (fs ++ [(x, y)]) := by
  refine ⟨List.nodup_append.mpr ⟨h.1, by simp, fun a ha b hb e => ?_⟩, fun r hr => ?_⟩
  · rw [List.mem_singleton.mp hb] at e
    rw [e] at ha
    exact hn ha
  · rcases List.mem_append.mp hr with hr | hr
    · exact h.2 r hr
    · rw [List.mem_singleton.mp hr]
      exact ⟨hx, hy⟩
theorem any_pair {fs : List (Str × Str)} {x : Str × Str} : ((fs.map pairD).any fun z => PyData.eqv z (pairD x)) = decide (x ∈ fs) := by
  rw [Bool.eq_iff_iff]
  simp only [List.any_map, List.any_eq_true, Function.comp, pairD_eqv, decide_eq_true_eq]
  constructor
  · rintro ⟨y, hy, rfl⟩
    exact hy
  · exact fun h => ⟨x, h, rfl⟩
def spRoutes : Sp := fun vs H Q _ => ∃ (d l ln : Addr) (a m : Int) (ns : List Str), vs = [.ref d, .ref ln, .int m] ∧ Pen H d l a ∧ a ≤ 70000 ∧ H ln = some (.lst (ns.map V.str)) ∧ ns.Nodup ∧ (∀ z ∈ ns, nameL (tl z)) ∧ 0 < ns.length ∧ ns.length ≤ 26 ∧ 0 ≤ m ∧ m ≤ 60 ∧
  ∀ rs, Among ns rs → (rs.length : Int) ≤ m → Drawn d l a (1 + 3 * m) H fun _ H' => ∀ u vo, H u = none → H' u = some (.lst vo) → All2 (PairS H') vo rs → Q (.ref u) H'
section
variable {P : Program} {w : World} {K : PySem.W.Frag} {mg : Str → Option Value} {base : Heap} {f : Addr} {fd : FuncData}
structure DRoutes (P : Program) (w : World) (K : PySem.W.Frag) (mg : Str → Option Value) (base : Heap) : Prop extends DDraw P w K mg base where
  law_shuffled : Df P w K mg base CX0 2 "_law_shuffled" ["_law_pen_here", "_law_some"] spShuf
theorem scRoutes : FnScope ["_law_pen_here", "_law_names_here", "_law_many", "_law_way", "_law_found", "_law_k", "_law_pair"] ["_law_pen_here", "_law_names_here", "_law_many"] (defScope (top i__law_routes)) := ⟨rfl, rfl, rfl, by decide +kernel, rfl, by decide +kernel, by decide +kernel⟩
theorem ok_routes (F : FnG K "_law_routes" i__law_routes f fd) (T : Tx K mg) (D : DRoutes P w K mg base) : FnOk P w K mg base CX0 4 f fd ["_law_pen_here", "_law_names_here", "_law_many"] spRoutes := by
  refine F.ok scRoutes (fun vs H Q E h => ?_) (fun cdv A outer s H vs Q E hr h => ?_)
  · obtain ⟨d, l, ln, a, m, ns, rfl, _⟩ := h
    rfl
  · obtain ⟨d, l, ln, a, m, ns, rfl, hp, ha, hln, hnd, hnm, n0, n26, m0, m60, k⟩ := h
    have hu65 : (A.deeper (envOfC "_law_routes" (defScope (top i__law_routes)) s.heap.objs.size f cdv)).units + 65 < cLine := by
      have := hr.un
      omega
    refine ⟨_, PSs.nox (pss_cons (ps_par (i := 3) (j := 4) (by rfl) scRoutes.nd rfl rfl (by decide) rfl rfl (pa_cons (pe_cd D.law_draw (hr.mono (by decide)) pass0 (pa_cons (pv 0) (pa_cons pe_int pa_nil))) (pa_cons (pe_lst pa_nil) pa_nil)) (by rfl))
        (pss_cons (ps_if (pt_cmpR op_eq (pv 3) pe_int (nomark _)) (pss_one (ps_setLc (i := 4) (own := [("_law_k", 5)]) rfl scRoutes.nd rfl rfl (sw_true rfl rfl rfl (by decide +kernel)) (pi_range1 (by rfl) T.range (pa_cons (pe_callB call_len (by rfl) T.len PySem.boot_len (pa_cons (pv 1) pa_nil)) pa_nil)) (blkOk_by (own := [("_law_k", 5)]) (N := ["_law_pen_here", "_law_names_here", "_law_many", "_law_way", "_law_found", "_law_k", "_law_pair"]) (sc := defScope (top i__law_routes)) (by decide +kernel)) (fun _ _ _ _ _ => (pg_name (i := 5) scRoutes.nd rfl (Or.inl rfl))) (fun _ _ _ _ _ => pts_nil) (fun _ _ _ _ _ => (pe_tup (pa_cons (pe_ix (r := rIxL K) ix_list (pv 1) (pe_op op_sub (pv 5) pe_int) (fun _ _ => rfl)) (pa_cons (pe_ix (r := rIxL K) ix_list (pv 1) (pv 5) (fun _ _ => rfl)) pa_nil)))))) pss_nil)
        (pss_cons (ps_if (pt_cmpR op_eq (pv 3) pe_int (nomark _)) (pss_cons (ps_setLc (i := 4) (own := [("_law_k", 5)]) rfl scRoutes.nd rfl rfl (sw_true rfl rfl rfl (by decide +kernel)) (pi_range2 (by rfl) T.range (pa_cons pe_int (pa_cons (pe_callB call_len (by rfl) T.len PySem.boot_len (pa_cons (pv 1) pa_nil)) pa_nil))) (blkOk_by (own := [("_law_k", 5)]) (N := ["_law_pen_here", "_law_names_here", "_law_many", "_law_way", "_law_found", "_law_k", "_law_pair"]) (sc := defScope (top i__law_routes)) (by decide +kernel)) (fun _ _ _ _ _ => (pg_name (i := 5) scRoutes.nd rfl (Or.inl rfl))) (fun _ _ _ _ _ => pts_nil) (fun _ _ _ _ _ => (pe_tup (pa_cons (pe_ix (r := rIxL K) ix_list (pv 1) (pe_op op_sub (pv 5) pe_int) (fun _ _ => rfl)) (pa_cons (pe_ix (r := rIxL K) ix_list (pv 1) (pv 5) (fun _ _ => rfl)) pa_nil)))))
        (pss_one (ps_set (i := 4) scRoutes.nd rfl (Or.inl rfl) (pe_op op_cat (pv 4) (pe_lc (own := [("_law_k", 5)]) rfl scRoutes.nd (pi_range2 (by rfl) T.range (pa_cons pe_int (pa_cons (pe_callB call_len (by rfl) T.len PySem.boot_len (pa_cons (pv 1) pa_nil)) pa_nil))) (blkOk_by (own := [("_law_k", 5)]) (N := ["_law_pen_here", "_law_names_here", "_law_many", "_law_way", "_law_found", "_law_k", "_law_pair"]) (sc := defScope (top i__law_routes)) (by decide +kernel)) (fun _ _ _ _ _ => (pg_name (i := 5) scRoutes.nd rfl (Or.inl rfl))) (fun _ _ _ _ _ => pts_nil) (fun _ _ _ _ _ => (pe_tup (pa_cons (pe_ix (r := rIxL K) ix_list (pv 1) (pv 5) (fun _ _ => rfl)) (pa_cons (pe_ix (r := rIxL K) ix_list (pv 1) (pe_op op_sub (pv 5) pe_int) (fun _ _ => rfl)) pa_nil))))))))) pss_nil)
        (pss_cons (ps_set (i := 4) scRoutes.nd rfl (Or.inl rfl) (pe_slice sl_list (pv 4) po_none (po_some (pv 2))))
        (pss_cons (ps_for PassesOwn.never rfl (pi_range1 (by rfl) T.range (pa_cons (pv 2) pa_nil)) (pg_name (i := 5) scRoutes.nd rfl (Or.inl rfl)) (pss_cons (ps_set (i := 6) scRoutes.nd rfl (Or.inl rfl) (pe_tup (pa_cons (pe_cd D.law_pick (hr.mono (by decide)) pass0 (pa_cons (pv 0) (pa_cons (pv 1) pa_nil))) (pa_cons (pe_cd D.law_pick (hr.mono (by decide)) pass0 (pa_cons (pv 0) (pa_cons (pv 1) pa_nil))) pa_nil))))
        (pss_one (ps_if (PW.pt (pw_and (pt_cmpR (op_notInD hu65) (pv 6) (pv 4) (by rfl)) (pw_and1 (pt_cmpR op_lt (pe_callB call_len (by rfl) T.len PySem.boot_len (pa_cons (pv 4) pa_nil)) (pv 2) (nomark _))))) (pss_one (ps_expr (pe_bm PySem.F.plainAttrs_list PySem.F.slot_list_append PySem.F.type_list_append mt_append (pv 4) (pa_cons (pv 6) pa_nil)))) pss_nil))))
        (pss_one (ps_ret (pe_cd D.law_shuffled (hr.mono (by decide)) pass0 (pa_cons (pv 0) (pa_cons (pv 4) pa_nil)))))))))), ?_⟩
    refine ⟨_, rfl, d, l, a, _, rfl, hp, by omega, by decide, by decide, fun r a1 H1 r0 rn g1 g2 p1 b1 => ⟨(by show 0 ≤ sizeLine; decide), fun f0 hf0 => ⟨_, _, rfl, ?_⟩⟩⟩
    have hf00 : H f0 = none := b1.free p1 hf0
    have s2 := same_upd (o := .lst []) hf0
    have p2 := p1.same s2
    have b2 : But d H (upd H1 f0 (.lst [])) := b1.trans (But.same s2)
    have q2 : (upd H1 f0 (.lst [])) f0 = some (.lst []) := upd_same
    generalize upd H1 f0 (.lst []) = H2 at s2 p2 b2 q2 ⊢
    have hm : ((ns.map V.str).length) = ns.length := List.length_map ..
    let M : L2.St → Hp → Prop := fun σ H' => ∃ (x5 : Option V) (fo : Addr) (vs : List V) (fs : List (Str × Str)), σ = [some (.ref d), some (.ref ln), some (.int m), some (.int r), some (.ref fo), x5, none] ∧ H fo = none ∧ Pen H' d l a1 ∧ But d H H' ∧
      H' fo = some (.lst vs) ∧ All2 (PairS H') vs fs ∧ Among ns fs ∧ fs.length ≤ 60
    have z0 : Among ns [] := ⟨List.nodup_nil, fun r hr => by cases hr⟩
    have at_ : ∀ (k : Nat) (z : Int), z = (k : Int) → k < ns.length → atI (ns.map V.str) z = some (.str (ns.getD k Str.empty)) := fun k z hz hk => by
      rw [hz]
      exact atI_nat (strAt (getD_at hk))
    dsimp only
    refine seq_by M (fun Nx hN => ?_) (fun σ1 H3 hM => ?_)
    · refine ⟨_, rfl, rfl, _, rfl, ifC (fun h0 => ?_) (fun h0 => hN _ _ ⟨none, f0, [], [], rfl, hf00, p2, b2, q2, .nil, z0, Nat.zero_le _⟩)⟩
      have ln2 := keepL hp b2 hln
      refine ⟨_, rfl, _, ns.length, rfl, .inl ⟨_, SqL.of ln2, hm.symm⟩, _, rfl, by omega, by omega, fun Dd hD => lc_range (lo := 0)
        (fun i H' => Fnd H2 H' Dd (ringP ns i)) (Fnd.zero hD) ?_ ?_⟩
      · rintro i H4 hi hF
        have hi' : i < ns.length := by omega
        have ln4 := hF.1 _ _ ln2
        refine ⟨rfl, iteT (B := Fnd H2 H4 Dd (ringP ns (i + 1))) ?_⟩
        have e : ringP ns (i + 1) = ringP ns i ++ [(ns.getD (if i = 0 then ns.length - 1 else i - 1) Str.empty, ns.getD i Str.empty)] := by
          unfold ringP
          rw [List.range_succ, List.map_append]
          rfl
        have w1 : atI (ns.map V.str) (0 + (i : Int) - 1) = some (.str (ns.getD (if i = 0 then ns.length - 1 else i - 1) Str.empty)) := by
          by_cases hi0 : i = 0
          · subst hi0
            rw [if_pos rfl]
            refine atI_neg1 ?_
            rw [hm]
            exact strAt (getD_at (by omega))
          · rw [if_neg hi0]
            exact at_ _ _ (by omega) (by omega)
        refine ⟨_, rfl, _, rfl, _, _, rfl, rfl, ln, _, _, _, rfl, rfl, SqL.of ln4, w1, _, rfl, _, rfl, ln, _, _, _, rfl, rfl, SqL.of ln4, at_ i _ (by omega) hi', (by show 2 ≤ sizeLine; decide), fun t ht => ?_⟩
        rw [e]
        exact hF.snoc hD ht (by unfold ringP; rw [List.length_map, List.length_range]; omega)
      · rintro H4 ⟨s4, vs, q4, al⟩
        have e : ringP ns ((ns.length : Int).toNat) = ringP ns ns.length := by rw [Int.toNat_natCast]
        rw [e] at al
        refine hN _ _ ⟨none, Dd, vs, _, rfl, b2.free p2 hD, p2.same s4, b2.trans (But.same s4), q4, al, ring_ok hnd, ?_⟩
        unfold ringP
        rw [List.length_map, List.length_range]
        omega
    obtain ⟨x5, fo, vs, fs, rfl, hfo, p3, b3, q3, al3, am3, l3⟩ := hM
    have ln3 := keepL hp b3 hln
    refine seq_by M (fun Nx hN => ?_) (fun σ1 H5 hM => ?_)
    · refine ⟨_, rfl, rfl, _, rfl, ifC (fun h0 => ?_) (fun h0 => hN _ _ ⟨x5, fo, vs, fs, rfl, hfo, p3, b3, q3, al3, am3, l3⟩)⟩
      refine ⟨_, rfl, _, ns.length, rfl, .inl ⟨_, SqL.of ln3, hm.symm⟩, 1, _, rfl, ⟨by decide, by decide, by omega, by omega⟩, fun Dd hD => lc_range (lo := 1)
        (fun i H' => Fnd H3 H' Dd (upP ns i)) (Fnd.zero hD) ?_ ?_⟩
      · rintro i H4 hi hF
        have hi' : i + 1 < ns.length := by omega
        have ln4 := hF.1 _ _ ln3
        refine ⟨rfl, iteT (B := Fnd H3 H4 Dd (upP ns (i + 1))) ?_⟩
        have e : upP ns (i + 1) = upP ns i ++ [(ns.getD i Str.empty, ns.getD (i + 1) Str.empty)] := by
          unfold upP
          rw [List.range_succ, List.map_append]
          rfl
        refine ⟨_, rfl, _, rfl, _, _, rfl, rfl, ln, _, _, _, rfl, rfl, SqL.of ln4, at_ i _ (by omega) (by omega), _, rfl, _, rfl, ln, _, _, _, rfl, rfl, SqL.of ln4, at_ (i + 1) _ (by omega) hi', (by show 2 ≤ sizeLine; decide), fun t ht => ?_⟩
        rw [e]
        exact hF.snoc hD ht (by unfold upP; rw [List.length_map, List.length_range]; omega)
      rintro H4 ⟨s4, vs4, q4, al4⟩
      have e : ((ns.length : Int) - 1).toNat = ns.length - 1 := by omega
      rw [e] at al4
      have ln4 := s4 _ _ ln3
      have p4 := p3.same s4
      have b4 := b3.trans (But.same s4)
      refine ⟨_, rfl, _, rfl, _, ns.length, rfl, .inl ⟨_, SqL.of ln4, hm.symm⟩, 1, _, rfl, ⟨by decide, by decide, by omega, by omega⟩, fun D2 hD2 => lc_range (lo := 1)
        (fun i H' => Fnd H4 H' D2 (downP ns i)) (Fnd.zero hD2) ?_ ?_⟩
      · rintro i H6 hi hF
        have hi' : i + 1 < ns.length := by omega
        have ln6 := hF.1 _ _ ln4
        refine ⟨rfl, iteT (B := Fnd H4 H6 D2 (downP ns (i + 1))) ?_⟩
        have e : downP ns (i + 1) = downP ns i ++ [(ns.getD (i + 1) Str.empty, ns.getD i Str.empty)] := by
          unfold downP
          rw [List.range_succ, List.map_append]
          rfl
        refine ⟨_, rfl, _, rfl, ln, _, _, _, rfl, rfl, SqL.of ln6, at_ (i + 1) _ (by omega) hi', _, rfl, _, rfl, _, _, rfl, rfl, ln, _, _, _, rfl, rfl, SqL.of ln6, at_ i _ (by omega) (by omega), (by show 2 ≤ sizeLine; decide), fun t ht => ?_⟩
        rw [e]
        exact hF.snoc hD2 ht (by unfold downP; rw [List.length_map, List.length_range]; omega)
      rintro H6 ⟨s6, vs6, q6, al6⟩
      rw [e] at al6
      have q4' := s6 _ _ q4
      have la4 := al4.len
      have la6 := al6.len
      have lu : (upP ns (ns.length - 1)).length = ns.length - 1 := by unfold upP; rw [List.length_map, List.length_range]
      have ld : (downP ns (ns.length - 1)).length = ns.length - 1 := by unfold downP; rw [List.length_map, List.length_range]
      have p6 := p4.same s6
      have b6 := b4.trans (But.same s6)
      refine ⟨Dd, D2, vs4, vs6, rfl, rfl, q4', q6, by rw [sizeLine_eq]; omega, fun p hpp => ?_⟩
      have sp := same_upd (o := .lst (vs4 ++ vs6)) hpp
      exact hN _ _ ⟨x5, p, _, _, rfl, b6.free p6 hpp, p6.same sp, b6.trans (But.same sp), upd_same, ((al4.mono fun _ _ z => z.same (s6.trans sp)).app (al6.mono fun _ _ z => z.same sp)), updown_ok hnd, by rw [List.length_append]; omega⟩
    clear p3 b3 q3 al3 am3 l3 ln3 hfo p2 b2 q2 s2 hf00 hf0 p1 b1
    obtain ⟨x5', fo', vs, fs, rfl, hfo, p3, b3, q3, al3, am3, l3⟩ := hM
    have ln3 := keepL hp b3 hln
    obtain ⟨mm, rfl⟩ := Int.eq_ofNat_of_zero_le m0
    refine ⟨_, rfl, _, rfl, _, rfl, fo', vs, rfl, SqL.of q3, fun fp hfp => ?_⟩
    have ec : cutV vs none (some (mm : Int)) = vs.take (min mm vs.length) := by
      unfold cutV
      rw [HT.sIx_none, HT.sIx_nat, List.drop_zero, Nat.sub_zero]
    have sp := same_upd (o := .lst (cutV vs none (some (mm : Int)))) hfp
    have hfp0 := b3.free p3 hfp
    rw [ec] at sp ⊢
    have al4 := al3.take (min mm vs.length)
    have am4 := am3.take (min mm vs.length)
    have l4 : (fs.take (min mm vs.length)).length ≤ mm := by rw [List.length_take]; omega
    generalize fs.take (min mm vs.length) = fs4 at al4 am4 l4
    generalize vs.take (min mm vs.length) = vs4 at al4 sp
    have p4 := p3.same sp
    have b4 := b3.trans (But.same sp)
    have al4 := al4.mono fun _ _ z => PairS.same sp z
    have q4 : (upd H5 fp (.lst vs4)) fp = some (.lst vs4) := upd_same
    generalize upd H5 fp (.lst vs4) = H6 at sp p4 b4 al4 q4 ⊢
    refine ⟨_, rfl, (mm : Int), rfl, by omega, by omega, for_range (lo := 0) (n := (mm : Int).toNat)
      (fun i σ H' => ∃ (x5 x6 : Option V) (vs : List V) (fs : List (Str × Str)) (a' : Int), σ = [some (.ref d), some (.ref ln), some (.int (mm : Int)), some (.int r), some (.ref fp), x5, x6] ∧ Pen H' d l a' ∧ a ≤ a' ∧ a' ≤ a + 1 + 2 * i ∧ But d H H' ∧
        H' fp = some (.lst vs) ∧ All2 (PairS H') vs fs ∧ Among ns fs ∧ fs.length ≤ mm)
      ⟨x5', none, vs4, fs4, a1, rfl, p4, g1, by omega, b4, q4, al4, am4, l4⟩ ?_ ?_⟩
    · rintro i σ H7 hi ⟨x5, x6, vs, fs, a7, rfl, p7, g3, g4, b7, q7, al7, am7, l7⟩
      have hi' : i < mm := by simpa using hi
      have ln7 := keepL hp b7 hln
      have nsne : ns.map V.str ≠ [] := fun z => by
        have : ns.length = 0 := by rw [← hm, z]; rfl
        omega
      refine ⟨_, rfl, _, rfl, d, l, a7, _, rfl, p7, by omega, .inl ⟨ln, _, rfl, p7.dne ln7, ln7, nsne, by rw [hm]; omega, fun x a8 H8 hx g5 g6 p8 b8 => ?_⟩⟩
      obtain ⟨x, hx1, rfl⟩ := List.mem_map.mp hx
      have ln8 := keepL p7 b8 ln7
      refine ⟨_, rfl, _, rfl, d, l, a8, _, rfl, p8, by omega, .inl ⟨ln, _, rfl, p8.dne ln8, ln8, nsne, by rw [hm]; omega, fun y a9 H9 hy g7 g8 p9 b9 => ?_⟩⟩
      obtain ⟨y, hy1, rfl⟩ := List.mem_map.mp hy
      refine ⟨(by show 2 ≤ sizeLine; decide), fun t ht => ?_⟩
      have st := same_upd (o := .tup [.str x, .str y]) ht
      have q9 := st _ _ (keepL p8 b9 (keepL p7 b8 q7))
      have al9 := ((al7.mono fun _ _ z => z.but p7 b8).mono fun _ _ z => PairS.but p8 b9 z).mono fun _ _ z => PairS.same st z
      have b9' : But d H (upd H9 t (.tup [.str x, .str y])) := b7.trans (b8.trans (b9.trans (But.same st)))
      have p9' := p9.same st
      have t9 : (upd H9 t (.tup [.str x, .str y])) t = some (.tup [.str x, .str y]) := upd_same
      generalize upd H9 t (.tup [.str x, .str y]) = HA at st q9 al9 b9' p9' t9 ⊢
      have nm2 : ∀ r ∈ fs, nameL (tl r.1) ∧ nameL (tl r.2) := fun r hr => ⟨hnm _ (am7.2 r hr).1, hnm _ (am7.2 r hr).2⟩
      refine ⟨_, rfl, _, rfl, pairD (x, y), _, .tup (SqT.of t9) (.cons (.str _) (.cons (.str _) .nil)), .lst (SqL.of q9) (dp_pairs al9), pair_shaped ⟨hnm _ hx1, hnm _ hy1⟩, pairs_shaped nm2, _, rfl, ?_⟩
      rw [any_pair]
      refine ifC' (fun hn => ?_) (fun _ => ⟨_, _, vs, fs, a9, rfl, p9', by omega, by omega, b9', q9, al9, am7, l7⟩)
      refine ⟨_, rfl, _, fs.length, rfl, .inl ⟨_, SqL.of q9, al9.len.symm⟩, _, rfl, _, _, rfl, rfl, _, rfl, ifC (fun hl => ?_) (fun _ => ⟨_, _, vs, fs, a9, rfl, p9', by omega, by omega, b9', q9, al9, am7, l7⟩)⟩
      have hl : (fs.length : Int) < mm := hl
      have lv := al9.len
      refine ⟨_, rfl, tyL q9, _, rfl, fp, vs, _, rfl, rfl, q9, by rw [lv, sizeLine_eq]; omega, ?_⟩
      exact ⟨_, _, _, fs ++ [(x, y)], a9, rfl, hp.new hfp0 p9', by omega, by omega, But.new hfp0 b9', upd_same, (al9.mono fun _ _ z => PairS.put q9 z).snoc ((show PairS HA (.ref t) (x, y) from ⟨t, rfl, t9⟩).put q9), am7.snoc hx1 hy1 hn, by rw [List.length_append, List.length_singleton]; omega⟩
    · rintro σ H7 ⟨x5, x6, vs, fs, a7, rfl, p7, g3, g4, b7, q7, al7, am7, l7⟩
      have lv := al7.len
      refine ⟨_, rfl, _, rfl, d, l, fp, a7, vs, rfl, p7, by omega, q7, by omega, fun ys pm a8 H8 g5 g6 p8 b8 u hu hu8 => ?_⟩
      obtain ⟨rs, pr, al8⟩ := al7.perm pm
      have lr := pr.length_eq
      exact k rs ⟨pr.nodup_iff.mpr am7.1, fun r hr => am7.2 r (pr.mem_iff.mp hr)⟩ (by omega) a8 H8 (by omega) (by omega) p8 (b7.trans b8) u ys (b7.free p7 hu) hu8 (al8.mono fun _ _ z => z.but p7 b8)
end
end Wd
end
section
set_option Elab.async false
set_option linter.all false
set_option maxRecDepth 100000
set_option maxHeartbeats 1000000
namespace Wd
open PySem PySem.Spec PyProof.Rows L2 Wt TL NumText
theorem PairI.put {H : Hp} {D : Addr} {zs ys : List V} {v : V} {p : Str × Int} (hD : H D = some (.lst zs)) (h : PairI H v p) : PairI (upd H D (.lst ys)) v p := by
  obtain ⟨c, e, q⟩ := h
  refine ⟨c, e, ?_⟩
  rw [upd_ne ?_]
  · exact q
  · rintro rfl
    rw [hD] at q
    cases q
theorem PairI.same {H H' : Hp} {v : V} {p : Str × Int} (s : Same H H') (h : PairI H v p) : PairI H' v p := by
  obtain ⟨c, e, q⟩ := h
  exact ⟨c, e, s _ _ q⟩
theorem RowH.put {d : Addr} {H : Hp} {D : Addr} {zs ys : List V} {v : V} {r : DRow} (hD : H D = some (.lst zs)) (h : RowH d H v r) : RowH d (upd H D (.lst ys)) v r := by
  obtain ⟨c, b, e, h1, h2, h3⟩ := h
  refine ⟨c, b, e, ?_, h2, ?_⟩
  · rw [upd_ne ?_]
    · exact h1
    · rintro rfl
      rw [hD] at h1
      cases h1
  · rw [upd_ne ?_]
    · exact h3
    · rintro rfl
      rw [hD] at h3
      cases h3
theorem RowH.same {d : Addr} {H H' : Hp} {v : V} {r : DRow} (s : Same H H') (h : RowH d H v r) : RowH d H' v r := by
  obtain ⟨c, b, e, h1, h2, h3⟩ := h
  exact ⟨c, b, e, s _ _ h1, h2, s _ _ h3⟩
theorem All2.paired {α β : Type} {R : α → β → Prop} : ∀ {xs : List α} {ys : List β}, All2 R xs ys → Paired R xs ys
  | _, _, .nil => .nil
  | _, _, .cons h t => .cons h t.paired
/-- a row of rules that may be drawn -/
structure RowOk (zs : List Str) (r : DRow) : Prop where
  nm : nameL (tl r.name)
  home : r.home ∈ zs
  day : RuleD "day" r.day
  flo : RuleD "float" r.flo
  zon : RuleD "zoned" r.zon
  fix : RuleD "fixed" r.fix
  n11 : (tl r.name).length ≤ 11
/-- a net that may be drawn -/
structure DOk (N : DNet) : Prop where
  zn : (N.told.map Prod.fst).Nodup
  zname : ∀ z ∈ N.told, nameL (tl z.1) ∧ -840 ≤ z.2 ∧ z.2 ≤ 840
  pn : N.names.Nodup
  row : ∀ r ∈ N.rows, RowOk (N.told.map Prod.fst) r
  rts : Among N.names N.routes
  z11 : ∀ z ∈ N.told.map Prod.fst, (tl z).length ≤ 11
def spNet : Sp := fun vs H Q _ => ∃ (d l : Addr) (a : Int) (nz np : Nat) (nr st : Int), vs = [.ref d, .int (nz : Int), .int (np : Int), .int nr, .int st] ∧ Pen H d l a ∧ a ≤ 60000 ∧ 1 ≤ nz ∧ nz ≤ 26 ∧ 1 ≤ np ∧ np ≤ 26 ∧ 0 ≤ nr ∧ nr ≤ 60 ∧ 0 < st ∧ st ≤ 720 ∧
  ∀ N : DNet, DOk N → N.told.length = nz → N.rows.length = np → (N.routes.length : Int) ≤ nr → Drawn d l a 800 H fun _ H' => ∀ t, H t = none → NetH d H' t N → Q (.ref t) H'
def kvOf (rs : List Str) : List (Key × V) := List.zipWith (fun (k r : Str) => ((Sum.inr k : Key), V.str r)) KS rs
theorem zip_snoc {α β γ : Type} {g : α → β → γ} : ∀ {xs : List α} {ys : List β} {x : α} {y : β}, xs[ys.length]? = some x → List.zipWith g xs (ys ++ [y]) = List.zipWith g xs ys ++ [g x y]
  | [], ys, x, y, h => by simp at h
  | a :: xs, [], x, y, h => by
    have e : a = x := by simpa using h
    subst e
    simp
  | a :: xs, b :: ys, x, y, h => by
    simp only [List.cons_append, List.zipWith_cons_cons]
    rw [zip_snoc (by simpa using h)]
theorem put2 {H : Hp} {D : Addr} {zs ys : List V} {v : V} {x y : V} (hD : H D = some (.lst zs)) (h : ∃ p, v = .ref p ∧ H p = some (.tup [x, y])) : ∃ p, v = .ref p ∧ (upd H D (.lst ys)) p = some (.tup [x, y]) := by
  obtain ⟨c, e, q⟩ := h
  refine ⟨c, e, ?_⟩
  rw [upd_ne ?_]
  · exact q
  · rintro rfl
    rw [hD] at q
    cases q
theorem All2.refs {Tq : Addr → Key × V → Prop} : ∀ {vs : List V} {kvs : List (Key × V)}, All2 (fun v kv => ∃ p, v = .ref p ∧ Tq p kv) vs kvs → ∃ ps : List Addr, vs = ps.map V.ref ∧ Paired Tq ps kvs
  | _, _, .nil => ⟨[], rfl, .nil⟩
  | _, _, .cons ⟨p, e, h⟩ t => by
    obtain ⟨ps, e2, h2⟩ := t.refs
    exact ⟨p :: ps, by rw [e, e2]; rfl, .cons h h2⟩
theorem merge4 (r : DRow) : mergeK [] (kvOf [r.day, r.flo, r.zon, r.fix]) = rowD r := by
  have e : ∀ x y : Str, (decide ((Sum.inr x : Key) = Sum.inr y)) = decide (x = y) := fun x y => decide_eq_decide.mpr ⟨fun z => Sum.inr.inj z, fun z => by rw [z]⟩
  have n1 : ¬ (("day" : Str) = "float") := by decide +kernel
  have n2 : ¬ (("day" : Str) = "zoned") := by decide +kernel
  have n3 : ¬ (("day" : Str) = "fixed") := by decide +kernel
  have n4 : ¬ (("float" : Str) = "zoned") := by decide +kernel
  have n5 : ¬ (("float" : Str) = "fixed") := by decide +kernel
  have n6 : ¬ (("zoned" : Str) = "fixed") := by decide +kernel
  simp [mergeK, putK, kvOf, KS, rowD, n1, n2, n3, n4, n5, n6]
/-- all but d and f0 as it was -/
def But2 (d f0 : Addr) (H H' : Hp) : Prop := ∀ c o, H c = some o → c ≠ d → c ≠ f0 → H' c = some o
theorem But2.refl {d f0 : Addr} {H : Hp} : But2 d f0 H H := fun _ _ h _ _ => h
theorem But2.but {d f0 : Addr} {H H1 H2 : Hp} (x : But2 d f0 H H1) (y : But d H1 H2) : But2 d f0 H H2 := fun c o h n1 n2 => y c o (x c o h n1 n2) n1
theorem But2.put {d f0 : Addr} {H H1 : Hp} {o : HO} (x : But2 d f0 H H1) : But2 d f0 H (upd H1 f0 o) := fun c u h n1 n2 => by
  rw [upd_ne n2]
  exact x c u h n1 n2
theorem But2.fresh {d f0 : Addr} {H0 H H1 : Hp} (b : But d H0 H) (x : But2 d f0 H H1) (h : H0 f0 = none) : But d H0 H1 := fun c o z n => x c o (b c o z n) n (ne_of_none z h)
section
variable {P : Program} {w : World} {K : PySem.W.Frag} {mg : Str → Option Value} {base : Heap} {f : Addr} {fd : FuncData}
structure DNetD (P : Program) (w : World) (K : PySem.W.Frag) (mg : Str → Option Value) (base : Heap) : Prop extends DDraw P w K mg base where
  law_words : Df P w K mg base CX0 4 "_law_words" ["_law_pen_here", "_law_many"] spWords
  law_offset : Df P w K mg base CX0 2 "_law_offset" ["_law_pen_here", "_law_step"] spOffset
  law_rule : Df P w K mg base CX0 4 "_law_rule" ["_law_pen_here", "_law_kind", "_law_step"] spRule
  law_routes : Df P w K mg base CX0 4 "_law_routes" ["_law_pen_here", "_law_names_here", "_law_many"] spRoutes
theorem scNet : FnScope ["_law_pen_here", "_law_zones", "_law_programs", "_law_routes_here", "_law_step", "_law_places", "_law_names_here", "_law_rows", "_law_name", "_law_told", "_law_rules", "_law_kind"] ["_law_pen_here", "_law_zones", "_law_programs", "_law_routes_here", "_law_step"] (defScope (top i__law_net)) := ⟨rfl, rfl, rfl, by decide +kernel, rfl, by decide +kernel, by decide +kernel⟩
theorem ok_lnet (F : FnG K "_law_net" i__law_net f fd) (T : Tx K mg) (D : DNetD P w K mg base) : FnOk P w K mg base CX0 6 f fd ["_law_pen_here", "_law_zones", "_law_programs", "_law_routes_here", "_law_step"] spNet := by
  refine F.ok scNet (fun vs H Q E h => ?_) (fun cdv A outer s H vs Q E hr h => ?_)
  · obtain ⟨d, l, a, nz, np, nr, st, rfl, _⟩ := h
    rfl
  · obtain ⟨d, l, a, nz, np, nr, st, rfl, hp, ha, z1, z26, n1, n26, r0, r60, st0, st1, k⟩ := h
    refine ⟨_, PSs.nox (pss_cons (ps_par3 (i := 5) (j := 6) (l := 7) (by rfl) scNet.nd rfl rfl rfl (by decide) (by decide) (by decide) rfl rfl rfl (pa_cons (pe_cd D.law_words (hr.mono (by decide)) pass0 (pa_cons (pv 0) (pa_cons (pv 1) pa_nil))) (pa_cons (pe_cd D.law_words (hr.mono (by decide)) pass0 (pa_cons (pv 0) (pa_cons (pv 2) pa_nil))) (pa_cons (pe_lst pa_nil) pa_nil))) (by rfl))
        (pss_cons (ps_setLc (i := 9) (own := [("_law_name", 8)]) rfl scNet.nd rfl rfl (sw_true rfl rfl rfl (by decide +kernel)) (pi_list (pv 5)) (blkOk_by (own := [("_law_name", 8)]) (N := ["_law_pen_here", "_law_zones", "_law_programs", "_law_routes_here", "_law_step", "_law_places", "_law_names_here", "_law_rows", "_law_name", "_law_told", "_law_rules", "_law_kind"]) (sc := defScope (top i__law_net)) (by decide +kernel)) (fun _ _ _ _ _ => (pg_name (i := 8) scNet.nd rfl (Or.inl rfl))) (fun _ _ _ _ _ => pts_nil) (fun _ _ _ _ _ => (pe_tup (pa_cons (pv 8) (pa_cons (pe_cd D.law_offset (hr.mono (by decide)) pass0 (pa_cons (pv 0) (pa_cons (pv 4) pa_nil))) pa_nil)))))
        (pss_cons (ps_for PassesOwn.never rfl (pi_list (pv 6)) (pg_name (i := 8) scNet.nd rfl (Or.inl rfl)) (pss_cons (ps_set (i := 10) scNet.nd rfl (Or.inl rfl) (pe_callTy (call_dictP rfl) (by rfl) T.dict (by decide +kernel) (pa_cons (pe_lc (own := [("_law_kind", 11)]) rfl scNet.nd (pi_tup (pe_tup (pa_cons pe_str (pa_cons pe_str (pa_cons pe_str (pa_cons pe_str pa_nil)))))) (blkOk_by (own := [("_law_kind", 11)]) (N := ["_law_pen_here", "_law_zones", "_law_programs", "_law_routes_here", "_law_step", "_law_places", "_law_names_here", "_law_rows", "_law_name", "_law_told", "_law_rules", "_law_kind"]) (sc := defScope (top i__law_net)) (by decide +kernel)) (fun _ _ _ _ _ => (pg_name (i := 11) scNet.nd rfl (Or.inl rfl))) (fun _ _ _ _ _ => pts_nil) (fun _ _ _ _ _ => (pe_tup (pa_cons (pv 11) (pa_cons (pe_cd D.law_rule (hr.mono (by decide)) pass0 (pa_cons (pv 0) (pa_cons (pv 11) (pa_cons (pv 4) pa_nil)))) pa_nil))))) pa_nil)))
        (pss_one (ps_expr (pe_bm PySem.F.plainAttrs_list PySem.F.slot_list_append PySem.F.type_list_append mt_append (pv 7) (pa_cons (pe_tup (pa_cons (pv 8) (pa_cons (pe_cd D.law_pick (hr.mono (by decide)) pass0 (pa_cons (pv 0) (pa_cons (pv 5) pa_nil))) (pa_cons (pv 10) pa_nil)))) pa_nil))))))
        (pss_one (ps_ret (pe_tup (pa_cons (pv 9) (pa_cons (pv 7) (pa_cons (pe_cd D.law_routes (hr.mono (by decide)) pass0 (pa_cons (pv 0) (pa_cons (pv 6) (pa_cons (pv 3) pa_nil)))) pa_nil))))))))), ?_⟩
    refine ⟨_, rfl, _, rfl, d, l, a, nz, rfl, hp, by omega, z26, fun ws lw nw dw a1 H1 g1 g2 p1 b1 u1 hu1 q1 => ?_⟩
    refine ⟨_, rfl, _, rfl, d, l, a1, np, rfl, p1, by omega, n26, fun xs lx nx dx a2 H2 g3 g4 p2 b2 u2 hu2 q2 => ?_⟩
    have hu20 : H u2 = none := b1.free p1 hu2
    have q12 := keepL p1 b2 q1
    have b12 := b1.trans b2
    refine ⟨(by show 0 ≤ sizeLine; decide), fun f0 hf0 => ⟨_, _, _, rfl, ?_⟩⟩
    have hf00 : H f0 = none := b12.free p2 hf0
    have s3 := same_upd (o := .lst []) hf0
    have p3 := p2.same s3
    have b3 := b12.trans (But.same s3)
    have u1q := s3 _ _ q12
    have u2q := s3 _ _ q2
    have f0q : (upd H2 f0 (.lst [])) f0 = some (.lst []) := upd_same
    have nf1 : u1 ≠ f0 := fun e => by
      rw [e, hf0] at q12
      cases q12
    have nf2 : u2 ≠ f0 := fun e => by
      rw [e, hf0] at q2
      cases q2
    generalize upd H2 f0 (.lst []) = H3 at s3 p3 b3 u1q u2q f0q ⊢
    dsimp only
    refine ⟨_, rfl, u1, rfl, ⟨_, SqL.of u1q⟩, fun Dt hDt => lc_list (xs := ws.map V.str)
      (fun i H' => ∃ vs fs a', H' Dt = some (.lst vs) ∧ All2 (PairI H') vs fs ∧ fs.map Prod.fst = ws.take i ∧ (∀ r ∈ fs, -840 ≤ r.2 ∧ r.2 ≤ 840) ∧ Pen H' d l a' ∧ a2 ≤ a' ∧ a' ≤ a2 + 2 * i ∧ But d H3 H')
      ⟨[], [], a2, upd_same, .nil, rfl, (fun r hr => by cases hr), p3.same (same_upd hDt), Int.le_refl _, by omega, But.same (same_upd hDt)⟩ (fun i H' _ q => ?_) ?_ ?_⟩
    · obtain ⟨vs, fs, a', _, _, _, _, _, _, _, b⟩ := q
      exact SqL.of (keepL p3 b u1q)
    · rintro i x H4 hx ⟨vs, fs, a4, q4, al4, fw, bd4, p4, g5, g6, b4⟩
      obtain ⟨z, hz, rfl⟩ : ∃ z, ws[i]? = some z ∧ x = .str z := by
        rw [List.getElem?_map] at hx
        cases e : ws[i]? with
        | none => rw [e] at hx; cases hx
        | some z => exact ⟨z, rfl, by rw [e] at hx; exact (Option.some.inj hx).symm⟩
      have li := (List.getElem?_eq_some_iff.mp hz).1
      refine ⟨rfl, iteT (B := ∃ vs fs a', H4 Dt = some (.lst vs) ∧ All2 (PairI H4) vs fs ∧ fs.map Prod.fst = ws.take (i + 1) ∧ (∀ r ∈ fs, -840 ≤ r.2 ∧ r.2 ≤ 840) ∧ Pen H4 d l a' ∧ a2 ≤ a' ∧ a' ≤ a2 + 2 * ((i + 1 : Nat) : Int) ∧ But d H3 H4) ?_⟩
      refine ⟨_, rfl, _, rfl, _, rfl, d, l, a4, st, rfl, p4, by omega, st0, by omega, fun o o1 o2 a5 H5 g7 g8 p5 b5 => ?_⟩
      refine ⟨(by show 2 ≤ sizeLine; decide), fun t ht => ?_⟩
      have sT := same_upd (o := .tup [.str z, .int o]) ht
      have q5 := sT _ _ (keepL p4 b5 q4)
      have al5 := (al4.mono fun _ _ y => y.but p4 b5).mono fun _ _ y => PairI.same sT y
      have tq : (upd H5 t (.tup [.str z, .int o])) t = some (.tup [.str z, .int o]) := upd_same
      have p5' := p5.same sT
      have b5' := (b4.trans b5).trans (But.same sT)
      generalize upd H5 t (.tup [.str z, .int o]) = H6 at sT q5 al5 tq p5' b5' ⊢
      have lv := al5.len
      have lfs : fs.length ≤ 26 := by
        have := congrArg List.length fw
        rw [List.length_map, List.length_take] at this
        omega
      refine ⟨vs, q5, by rw [lv, sizeLine_eq]; omega, vs ++ [.ref t], fs ++ [(z, o)], a5, upd_same, (al5.mono fun _ _ y => PairI.put q5 y).snoc ((show PairI H6 (.ref t) (z, o) from ⟨t, rfl, tq⟩).put q5), ?_, fun r hr => ?_, p3.new hDt p5', by omega, by omega, But.new hDt b5'⟩
      · rw [List.map_append, fw, List.take_succ_eq_append_getElem li]
        have : ws[i] = z := (List.getElem?_eq_some_iff.mp hz).2
        rw [this]
        rfl
      · rcases List.mem_append.mp hr with hr | hr
        · exact bd4 r hr
        · rw [List.mem_singleton.mp hr]
          exact ⟨o1, o2⟩
    rintro H4 ⟨vt, told, a4, q4, al4, fw, bd4, p4, g5, g6, b4⟩
    rw [List.length_map] at fw g6
    rw [List.take_of_length_le (Nat.le_refl _)] at fw
    have lt4 : told.length = nz := by
      rw [← List.length_map (f := Prod.fst), fw]
      exact lw
    have f0q4 := b4 f0 _ f0q (p3.dne f0q)
    have u1q4 := keepL p3 b4 u1q
    have u2q4 := keepL p3 b4 u2q
    have nft : Dt ≠ f0 := fun e => by
      rw [e, f0q] at hDt
      cases hDt
    have b4' := b3.trans b4
    dsimp only [gName]
    refine ⟨_, rfl, u2, rfl, ⟨_, SqL.of u2q4⟩, for_it (walk_list (xs := xs.map V.str))
      (fun i σ H' => ∃ (x8 x10 x11 : Option V) (vr : List V) (rows : List DRow) (a' : Int), σ = [some (.ref d), some (.int (nz : Int)), some (.int (np : Int)), some (.int nr), some (.int st), some (.ref u1), some (.ref u2), some (.ref f0), x8, some (.ref Dt), x10, x11] ∧
        Pen H' d l a' ∧ a4 ≤ a' ∧ a' ≤ a4 + 17 * i ∧ But2 d f0 H4 H' ∧ H' f0 = some (.lst vr) ∧ All2 (RowH d H') vr rows ∧ rows.map DRow.name = xs.take i ∧ ∀ r ∈ rows, RowOk ws r)
      ⟨none, none, none, [], [], a4, rfl, p4, Int.le_refl _, by omega, But2.refl, f0q4, .nil, rfl, fun r hr => by cases hr⟩ ?_ ?_ ?_⟩
    · rintro i σ H' hi ⟨x8, x10, x11, vr, rows, a', rfl, p', g7, g8, b', f', al', nm', ok'⟩
      exact SqL.of (b' u2 _ u2q4 (p4.dne u2q4) nf2)
    · rintro i x σ H5 H5' hi ⟨x8, x10, x11, vr, rows, a5, rfl, p5, g7, g8, b5, f5, al5, nm5, ok5⟩ ⟨rfl, hx⟩
      obtain ⟨z, hz, rfl⟩ : ∃ z, xs[i]? = some z ∧ x = .str z := by
        rw [List.getElem?_map] at hx
        cases e : xs[i]? with
        | none => rw [e] at hx; cases hx
        | some z => exact ⟨z, rfl, by rw [e] at hx; exact (Option.some.inj hx).symm⟩
      have li := (List.getElem?_eq_some_iff.mp hz).1
      have hik : i < 26 := by omega
      refine ⟨(by show 4 ≤ sizeLine; decide), fun tk htk => ?_⟩
      have sk := same_upd (o := .tup [.str "day", .str "float", .str "zoned", .str "fixed"]) htk
      have p6 := p5.same sk
      have f6 := sk _ _ f5
      have al6 := al5.mono fun _ _ y => RowH.same sk y
      have b6 : But2 d f0 H4 (upd H5' tk (.tup [.str "day", .str "float", .str "zoned", .str "fixed"])) := b5.but (But.same sk)
      have tkq : (upd H5' tk (.tup [.str "day", .str "float", .str "zoned", .str "fixed"])) tk = some (.tup (KS.map V.str)) := upd_same
      generalize upd H5' tk (.tup [.str "day", .str "float", .str "zoned", .str "fixed"]) = H6 at sk p6 f6 al6 b6 tkq ⊢
      have e0 : ∀ (n : Nat) (k r : Str), KS[n]? = some k → ([] : List Str)[n]? = some r → RuleD k r := fun n k r _ e => by simp at e
      refine ⟨tk, rfl, ⟨_, SqT.of tkq⟩, fun Dk hDk => lc_it (walk_tup (xs := KS.map V.str))
        (fun j H' => ∃ (vs : List V) (rs : List Str) (a' : Int), H' Dk = some (.lst vs) ∧ All2 (fun v kv => ∃ p, v = .ref p ∧ H' p = some (.tup [kV kv.1, kv.2])) vs (kvOf rs) ∧ rs.length = j ∧ (∀ (n : Nat) (k r : Str), KS[n]? = some k → rs[n]? = some r → RuleD k r) ∧ Pen H' d l a' ∧ a5 ≤ a' ∧ a' ≤ a5 + 4 * j ∧ But d H6 H')
        ⟨[], [], a5, upd_same, .nil, rfl, e0, p6.same (same_upd hDk), Int.le_refl _, by omega, But.same (same_upd hDk)⟩ (fun j H' _ q => ?_) ?_ ?_⟩
      · obtain ⟨vs, rs, a', _, _, _, _, _, _, _, b⟩ := q
        exact SqT.of (keepT p6 b tkq)
      · rintro j x H7 H7' hj ⟨vs, rs, a7, q7, al7, lr7, rd7, p7, g9, g10, b7⟩ ⟨rfl, hx⟩
        obtain ⟨kd, hkd, rfl⟩ : ∃ z, KS[j]? = some z ∧ x = .str z := by
          rw [List.getElem?_map] at hx
          cases e : KS[j]? with
          | none => rw [e] at hx; cases hx
          | some z => exact ⟨z, rfl, by rw [e] at hx; exact (Option.some.inj hx).symm⟩
        have hj4 : j < 4 := (List.getElem?_eq_some_iff.mp hkd).1
        refine ⟨rfl, iteT (B := ∃ (vs : List V) (rs : List Str) (a' : Int), H7' Dk = some (.lst vs) ∧ All2 (fun v kv => ∃ p, v = .ref p ∧ H7' p = some (.tup [kV kv.1, kv.2])) vs (kvOf rs) ∧ rs.length = j + 1 ∧ (∀ (n : Nat) (k r : Str), KS[n]? = some k → rs[n]? = some r → RuleD k r) ∧ Pen H7' d l a' ∧ a5 ≤ a' ∧ a' ≤ a5 + 4 * ((j + 1 : Nat) : Int) ∧ But d H6 H7') ?_⟩
        refine ⟨_, rfl, _, rfl, _, rfl, _, rfl, d, l, a7, st, kd, rfl, p7, by omega, st0, st1, fun r hr8 a8 H8 g11 g12 p8 b8 => ?_⟩
        refine ⟨(by show 2 ≤ sizeLine; decide), fun t ht => ?_⟩
        have sT := same_upd (o := .tup [.str kd, .str r]) ht
        have q8 := sT _ _ (keepL p7 b8 q7)
        have al8 : All2 (fun v (kv : Key × V) => ∃ p, v = .ref p ∧ (upd H8 t (.tup [.str kd, .str r])) p = some (.tup [kV kv.1, kv.2])) vs (kvOf rs) := al7.mono fun _ _ ⟨p, e, y⟩ => ⟨p, e, sT _ _ (keepT p7 b8 y)⟩
        have tq : (upd H8 t (.tup [.str kd, .str r])) t = some (.tup [.str kd, .str r]) := upd_same
        have p8' := p8.same sT
        have b8' := (b7.trans b8).trans (But.same sT)
        generalize upd H8 t (.tup [.str kd, .str r]) = H9 at sT q8 al8 tq p8' b8' ⊢
        have lv := al8.len
        have lz : (kvOf rs).length ≤ 4 := by
          unfold kvOf
          rw [List.length_zipWith, lr7]
          omega
        refine ⟨vs, q8, by rw [lv, sizeLine_eq]; omega, vs ++ [.ref t], rs ++ [r], a8, upd_same, ?_, by rw [List.length_append, lr7]; rfl, fun n k r' hk hr' => ?_, p6.new hDk p8', by omega, by omega, But.new hDk b8'⟩
        · have e : kvOf (rs ++ [r]) = kvOf rs ++ [(Sum.inr kd, .str r)] := zip_snoc (by rw [lr7]; exact hkd)
          rw [e]
          exact (al8.mono fun _ _ y => put2 q8 y).snoc (put2 q8 ⟨t, rfl, tq⟩)
        · rw [List.getElem?_append] at hr'
          split at hr'
          · exact rd7 n k r' hk hr'
          · have hn : n - rs.length = 0 := by
              have : n - rs.length < 1 := (List.getElem?_eq_some_iff.mp hr').1
              omega
            rw [hn] at hr'
            have e : r = r' := Option.some.inj hr'
            have hnj : n = j := by
              have := (List.getElem?_eq_some_iff.mp hk).1
              omega
            rw [hnj, hkd] at hk
            rw [← e, ← Option.some.inj hk]
            exact hr8
      rintro H7 ⟨vs, rs, a7, q7, al7, lr7, rd7, p7, g9, g10, b7⟩
      have lr4 : rs.length = 4 := lr7
      obtain ⟨r1, r2, r3, r4, rfl⟩ : ∃ r1 r2 r3 r4, rs = [r1, r2, r3, r4] := by
        match rs, lr4 with
        | [r1, r2, r3, r4], _ => exact ⟨r1, r2, r3, r4, rfl⟩
      have R1 := rd7 0 _ _ rfl rfl
      have R2 := rd7 1 _ _ rfl rfl
      have R3 := rd7 2 _ _ rfl rfl
      have R4 := rd7 3 _ _ rfl rfl
      obtain ⟨ps, ev, pr⟩ := al7.refs
      rw [ev] at q7
      refine ⟨Dk, ps, _, rfl, SqL.of q7, Paired.mapP pr fun _ _ y => SqT.of y, fun dr hdr => ?_⟩
      rw [show mergeK [] (kvOf [r1, r2, r3, r4]) = rowD ⟨z, z, r1, r2, r3, r4⟩ from merge4 ⟨z, z, r1, r2, r3, r4⟩]
      have sd := same_upd (o := .dK (rowD ⟨z, z, r1, r2, r3, r4⟩)) hdr
      have p8 := p7.same sd
      have drd : dr ≠ d := p7.ne hdr
      have b8 : But d H6 (upd H7 dr (.dK (rowD ⟨z, z, r1, r2, r3, r4⟩))) := b7.trans (But.same sd)
      have drq : (upd H7 dr (.dK (rowD ⟨z, z, r1, r2, r3, r4⟩))) dr = some (.dK (rowD ⟨z, z, r1, r2, r3, r4⟩)) := upd_same
      have f8 := b8 f0 _ f6 (p6.dne f6)
      have al8 := al6.mono fun _ _ y => RowH.but p6 b8 y
      have b8' := b6.but b8
      generalize upd H7 dr (.dK (rowD ⟨z, z, r1, r2, r3, r4⟩)) = H8 at sd p8 b8 drq f8 al8 b8' ⊢
      have u1q8 := b8' u1 _ u1q4 (p4.dne u1q4) nf1
      have wne : ws.map V.str ≠ [] := fun y => by
        have : (ws.map V.str).length = 0 := by rw [y]; rfl
        rw [List.length_map] at this
        omega
      refine ⟨_, rfl, tyL f8, _, rfl, _, rfl, _, rfl, d, l, a7, _, rfl, p8, by omega, .inl ⟨u1, _, rfl, p8.dne u1q8, u1q8, wne, by rw [List.length_map]; omega, fun y a9 H9 hy g11 g12 p9 b9 => ?_⟩⟩
      obtain ⟨hm, hy1, rfl⟩ := List.mem_map.mp hy
      refine ⟨_, rfl, (by show 3 ≤ sizeLine; decide), fun t ht => ?_⟩
      have sT := same_upd (o := .tup [.str z, .str hm, .ref dr]) ht
      have f9 := sT _ _ (keepL p8 b9 f8)
      have al9 := (al8.mono fun _ _ y => RowH.but p8 b9 y).mono fun _ _ y => RowH.same sT y
      have tq : (upd H9 t (.tup [.str z, .str hm, .ref dr])) t = some (.tup [.str z, .str hm, .ref dr]) := upd_same
      have dq9 := sT _ _ (b9 dr _ drq drd)
      have p9' := p9.same sT
      have b9' := (b8'.but b9).but (But.same sT)
      generalize upd H9 t (.tup [.str z, .str hm, .ref dr]) = HA at sT f9 al9 tq dq9 p9' b9' ⊢
      have lv := al9.len
      have lrows : rows.length ≤ 26 := by
        have := congrArg List.length nm5
        rw [List.length_map, List.length_take] at this
        omega
      have hf0A : f0 ≠ l := by
        obtain ⟨cs, bb, e1, e2, _⟩ := hp
        rintro rfl
        rw [hf00] at e2
        cases e2
      refine ⟨f0, vr, _, rfl, rfl, f9, by rw [lv, sizeLine_eq]; omega, ?_⟩
      refine ⟨_, _, _, vr ++ [.ref t], rows ++ [⟨z, hm, r1, r2, r3, r4⟩], a9, rfl, hp.new hf00 p9', by omega, by omega, b9'.put, upd_same, (al9.mono fun _ _ y => RowH.put f9 y).snoc ((show RowH d HA (.ref t) ⟨z, hm, r1, r2, r3, r4⟩ from ⟨t, dr, rfl, tq, drd, dq9⟩).put f9), ?_, fun r hr => ?_⟩
      · rw [List.map_append, nm5, List.take_succ_eq_append_getElem li]
        have : xs[i] = z := (List.getElem?_eq_some_iff.mp hz).2
        rw [this]
        rfl
      · rcases List.mem_append.mp hr with hr | hr
        · exact ok5 r hr
        · rw [List.mem_singleton.mp hr]
          exact ⟨(nx z (List.mem_of_getElem? hz)).1, hy1, R1, R2, R3, R4, (nx z (List.mem_of_getElem? hz)).2⟩
    · rintro σ H5 ⟨x8, x10, x11, vr, rows, a5, rfl, p5, g7, g8, b5, f5, al5, nm5, ok5⟩
      rw [List.length_map] at nm5 g8
      rw [List.take_of_length_le (Nat.le_refl _)] at nm5
      have u2q5 := b5 u2 _ u2q4 (p4.dne u2q4) nf2
      have Dtq5 := b5 Dt _ q4 (p4.dne q4) nft
      have bH5 : But d H H5 := But2.fresh b4' b5 hf00
      have al4' : All2 (PairI H5) vt told := al4.mono fun _ _ ⟨c, e, y⟩ => ⟨c, e, b5 c _ y (p4.dnt y) (fun ec => by rw [ec, f0q4] at y; cases y)⟩
      refine ⟨_, rfl, _, rfl, _, rfl, _, rfl, _, rfl, d, l, u2, a5, nr, xs, rfl, p5, by omega, u2q5, dx, fun z hz => (nx z hz).1, by omega, by omega, r0, r60, fun rs am lr a6 H6 g9 g10 p6 b6 u vo hu hq al => ?_⟩
      refine ⟨(by show 3 ≤ sizeLine; decide), fun t ht => ?_⟩
      have sT := same_upd (o := .tup [.ref Dt, .ref f0, .ref u]) ht
      have bb := (bH5.trans b6).trans (But.same sT)
      have lrow : rows.length = np := by rw [← List.length_map (f := DRow.name), nm5]; exact lx
      refine k ⟨told, rows, rs⟩ ⟨?_, fun z hz => ⟨?_, bd4 z hz⟩, ?_, ?_, ?_, fun z hz => (nw z (by rw [← fw]; exact hz)).2⟩ lt4 lrow lr a6 _ (by omega) (by omega) (p6.same sT) bb t ((bH5.trans b6).free p6 ht)
        ⟨Dt, f0, u, vt, vr, vo, upd_same, sT _ _ (keepL p5 b6 Dtq5), sT _ _ (keepL p5 b6 f5), sT _ _ hq, (al4'.mono fun _ _ y => PairI.but p5 b6 y).mono fun _ _ y => PairI.same sT y, (al5.mono fun _ _ y => RowH.but p5 b6 y).mono fun _ _ y => RowH.same sT y, al.mono fun _ _ y => PairS.same sT y⟩
      · rw [fw]
        exact dw
      · refine (nw _ ?_).1
        rw [← fw]
        exact List.mem_map_of_mem hz
      · show (rows.map DRow.name).Nodup
        rw [nm5]
        exact dx
      · intro r hr
        show RowOk (told.map Prod.fst) r
        rw [fw]
        exact ok5 r hr
      · show Among (rows.map DRow.name) rs
        rw [nm5]
        exact am
end
end Wd
end
section
set_option Elab.async false
set_option linter.all false
set_option maxRecDepth 100000
set_option maxHeartbeats 1000000
namespace Wd
open PySem PySem.Spec PyProof.Rows L2 Wt TL NumText
/-- the rule of a kind in a drawn row -/
def DRow.rule (r : DRow) (k : Str) : Str := if k = "day" then r.day else if k = "float" then r.flo else if k = "zoned" then r.zon else r.fix
def zoneL (z : Str × Int) : Str := "zone " ++ z.1 ++ " " ++ strI z.2
def progL (r : DRow) : Str := "program " ++ r.name ++ " at " ++ r.home
def ruleL (k z : Str) : Str := "  " ++ k ++ " -> " ++ z
def routeL (r : Str × Str) : Str := "route " ++ r.1 ++ " " ++ r.2
def ruleLs (r : DRow) (ks : List Str) : List Str := ks.flatMap fun k => if r.rule k = "keep" then [] else [ruleL k (r.rule k)]
def rowLs (r : DRow) : List Str := progL r :: ruleLs r KS
def linesOf (N : DNet) : List Str := N.told.map zoneL ++ (N.rows.flatMap rowLs ++ N.routes.map routeL)
theorem ks4 {k : Str} (h : k ∈ KS) : k = "day" ∨ k = "float" ∨ k = "zoned" ∨ k = "fixed" := by simpa [KS] using h
theorem row_get {r : DRow} {k : Str} (h : k ∈ KS) : valV (rowD r) (.inr k) = some (.str (r.rule k)) := by
  have e : ∀ x y : Str, ¬ x = y → ¬ ((Sum.inr x : Key) = Sum.inr y) := fun x y h z => h (Sum.inr.inj z)
  have n1 : ¬ (("day" : Str) = "float") := by decide +kernel
  have n2 : ¬ (("day" : Str) = "zoned") := by decide +kernel
  have n3 : ¬ (("day" : Str) = "fixed") := by decide +kernel
  have n4 : ¬ (("float" : Str) = "zoned") := by decide +kernel
  have n5 : ¬ (("float" : Str) = "fixed") := by decide +kernel
  have n6 : ¬ (("zoned" : Str) = "fixed") := by decide +kernel
  unfold rowD DRow.rule
  rcases ks4 h with rfl | rfl | rfl | rfl
  · rw [if_pos rfl]
    exact valV_pos rfl
  · rw [if_neg (Ne.symm n1), if_pos rfl]
    exact (valV_neg (e _ _ n1)).trans (valV_pos rfl)
  · rw [if_neg (Ne.symm n2), if_neg (Ne.symm n4), if_pos rfl]
    exact (valV_neg (e _ _ n2)).trans ((valV_neg (e _ _ n4)).trans (valV_pos rfl))
  · rw [if_neg (Ne.symm n3), if_neg (Ne.symm n5), if_neg (Ne.symm n6)]
    exact (valV_neg (e _ _ n3)).trans ((valV_neg (e _ _ n5)).trans ((valV_neg (e _ _ n6)).trans (valV_pos rfl)))
theorem ruleD_len {k z : Str} (h : RuleD k z) : z.length ≤ 140 := by
  rcases h with ⟨_, h⟩ | ⟨_, rfl | ⟨t, ht, _, b, e, b0, be, e1, rfl⟩⟩
  · have := rulesFor_len h
    omega
  · decide +kernel
  · have h1 := rulesFor_len ht
    have h2 := small_len (small_of (show b.natAbs ≤ 100000000000000000000000000000000 by omega))
    have h3 := small_len (small_of (show e.natAbs ≤ 100000000000000000000000000000000 by omega))
    have gg : (" " : Str).length = 1 := by decide +kernel
    simp only [len_app]
    omega
theorem RowOk.rule {zs : List Str} {r : DRow} (h : RowOk zs r) {k : Str} (hk : k ∈ KS) : RuleD k (r.rule k) := by
  have n1 : ¬ (("float" : Str) = "day") := by decide +kernel
  have n2 : ¬ (("zoned" : Str) = "day") := by decide +kernel
  have n3 : ¬ (("fixed" : Str) = "day") := by decide +kernel
  have n4 : ¬ (("zoned" : Str) = "float") := by decide +kernel
  have n5 : ¬ (("fixed" : Str) = "float") := by decide +kernel
  have n6 : ¬ (("fixed" : Str) = "zoned") := by decide +kernel
  unfold DRow.rule
  rcases ks4 hk with rfl | rfl | rfl | rfl
  · rw [if_pos rfl]; exact h.day
  · rw [if_neg n1, if_pos rfl]; exact h.flo
  · rw [if_neg n2, if_neg n4, if_pos rfl]; exact h.zon
  · rw [if_neg n3, if_neg n5, if_neg n6]; exact h.fix
def spText (K : PySem.W.Frag) : Sp := fun vs H Q _ => ∃ (d t : Addr) (N : DNet), vs = [.ref t] ∧ NetH d H t N ∧ DOk N ∧ N.told.length ≤ 26 ∧ N.rows.length ≤ 26 ∧ N.routes.length ≤ 60 ∧
  ∀ H', Same H H' → Q (.str (Txt.join "\n" (linesOf N))) H'
/-- at D the lines -/
def LinesAt (H0 H : Hp) (D : Addr) (ls : List Str) : Prop := Same H0 H ∧ H D = some (.lst (ls.map V.str))
theorem LinesAt.put {H0 H : Hp} {D : Addr} {ls : List Str} {z : Str} (h : LinesAt H0 H D ls) (hD : H0 D = none) : LinesAt H0 (upd H D (.lst (ls.map V.str ++ [.str z]))) D (ls ++ [z]) := by
  refine ⟨fun b o e => ?_, by rw [upd_same, List.map_append]; rfl⟩
  rw [upd_ne (ne_of_none e hD)]
  exact h.1 b o e
theorem sum_le {f : Str → Nat} {B : Nat} : ∀ {ls : List Str}, (∀ z ∈ ls, f z ≤ B) → (ls.map f).sum ≤ B * ls.length
  | [], _ => by simp
  | z :: ls, h => by
    have h1 := h z List.mem_cons_self
    have h2 := sum_le fun y hy => h y (List.mem_cons_of_mem _ hy)
    simp only [List.map_cons, List.sum_cons, List.length_cons, Nat.mul_succ]
    omega
theorem ruleLs_len (r : DRow) : ∀ ks : List Str, (ruleLs r ks).length ≤ ks.length
  | [] => Nat.le_refl _
  | k :: ks => by
    have ih := ruleLs_len r ks
    unfold ruleLs at ih ⊢
    rw [List.flatMap_cons, List.length_append, List.length_cons]
    split
    · simp only [List.length_nil]
      omega
    · simp only [List.length_cons, List.length_nil]
      omega
theorem rows_len : ∀ rs : List DRow, (rs.flatMap rowLs).length ≤ 5 * rs.length
  | [] => Nat.le_refl _
  | r :: rs => by
    have ih := rows_len rs
    have h := ruleLs_len r KS
    have e : KS.length = 4 := rfl
    rw [List.flatMap_cons, List.length_append, List.length_cons]
    unfold rowLs
    rw [List.length_cons]
    unfold rowLs at ih
    omega
theorem line_len {N : DNet} (ok : DOk N) : ∀ z ∈ linesOf N, z.length ≤ 200 := by
  have g1 : ("zone " : Str).length = 5 := by decide +kernel
  have g2 : (" " : Str).length = 1 := by decide +kernel
  have g3 : ("program " : Str).length = 8 := by decide +kernel
  have g4 : (" at " : Str).length = 4 := by decide +kernel
  have g5 : ("  " : Str).length = 2 := by decide +kernel
  have g6 : (" -> " : Str).length = 4 := by decide +kernel
  have g7 : ("route " : Str).length = 6 := by decide +kernel
  have nmz : ∀ z ∈ N.told.map Prod.fst, z.length ≤ 12 := fun z hz => by
    obtain ⟨y, hy, rfl⟩ := List.mem_map.mp hz
    exact name_len (ok.zname y hy).1
  have nmp : ∀ z ∈ N.names, z.length ≤ 12 := fun z hz => by
    obtain ⟨y, hy, rfl⟩ := List.mem_map.mp hz
    exact name_len (ok.row y hy).nm
  intro z hz
  unfold linesOf at hz
  rcases List.mem_append.mp hz with hz | hz
  · obtain ⟨y, hy, rfl⟩ := List.mem_map.mp hz
    have h1 := nmz _ (List.mem_map_of_mem hy)
    have h2 := (ok.zname y hy).2
    have h3 := small_len (small_of (show y.2.natAbs ≤ 100000000000000000000000000000000 by omega))
    unfold zoneL
    simp only [len_app]
    omega
  rcases List.mem_append.mp hz with hz | hz
  · obtain ⟨r, hr, hz⟩ := List.mem_flatMap.mp hz
    have ro := ok.row r hr
    rcases List.mem_cons.mp hz with rfl | hz
    · have h1 := name_len ro.nm
      have h2 := nmz _ ro.home
      unfold progL
      simp only [len_app]
      omega
    · obtain ⟨k, hk, hz⟩ := List.mem_flatMap.mp hz
      split at hz
      · cases hz
      · rw [List.mem_singleton.mp hz]
        have h1 := ks_len hk
        have h2 := ruleD_len (ro.rule hk)
        unfold ruleL
        simp only [len_app]
        omega
  · obtain ⟨r, hr, rfl⟩ := List.mem_map.mp hz
    have h := ok.rts.2 r hr
    have h1 := nmp _ h.1
    have h2 := nmp _ h.2
    unfold routeL
    simp only [len_app]
    omega
section
variable {P : Program} {w : World} {K : PySem.W.Frag} {mg : Str → Option Value} {base : Heap} {f : Addr} {fd : FuncData}
theorem scNet_text : FnScope ["_law_net_here", "_law_name", "_law_lines", "_law_home_here", "_law_rules", "_law_kind", "_law_offset_here", "_law_one", "_law_other"] ["_law_net_here"] (defScope (top i__law_net_text)) := ⟨rfl, rfl, rfl, by decide +kernel, rfl, by decide +kernel, by decide +kernel⟩
theorem ok_ltext (F : FnG K "_law_net_text" i__law_net_text f fd) (T : Tx K mg) : FnOk P w K mg base CX0 2 f fd ["_law_net_here"] (spText K) := by
  refine F.ok scNet_text (fun vs H Q E h => ?_) (fun cdv A outer s H vs Q E hr h => ?_)
  · obtain ⟨d, t, N, rfl, _⟩ := h
    rfl
  · obtain ⟨d, t, N, rfl, hN, ok, z26, r26, o60, k⟩ := h
    have hu := hu_of hr
    refine ⟨_, PSs.nox (pss_cons (ps_setLc (i := 2) (own := [("_law_name", 1), ("_law_offset_here", 6)]) (g := gTup K 2 (gCons (gName 1) (gCons (gName 6) gNil))) rfl scNet_text.nd rfl rfl (sw_true rfl rfl rfl (by decide +kernel)) (pi_list (pe_ix ix_tup (pv 0) pe_int (fun _ _ => rfl))) (blkOk_by (own := [("_law_name", 1), ("_law_offset_here", 6)]) (N := ["_law_net_here", "_law_name", "_law_lines", "_law_home_here", "_law_rules", "_law_kind", "_law_offset_here", "_law_one", "_law_other"]) (sc := defScope (top i__law_net_text)) (by decide +kernel)) (fun _ _ _ _ _ => (pg_tup rfl (pgs_cons (pg_name (i := 1) scNet_text.nd rfl (Or.inl rfl) (Or.inr rfl)) (pgs_cons (pg_name (i := 6) scNet_text.nd rfl (Or.inl rfl) (Or.inr rfl)) pgs_nil)))) (fun _ _ _ _ _ => pts_nil) (fun _ _ _ _ _ => (pe_op op_add_str (pe_op op_add_str (pe_op op_add_str pe_str (pv 1)) pe_str) (pe_callTy call_str_int (by rfl) T.str (by decide +kernel) (pa_cons (pv 6) pa_nil)))))
        (pss_cons (ps_for PassesOwn.never rfl (pi_list (pe_ix ix_tup (pv 0) pe_int (fun _ _ => rfl))) (pg_tup rfl (pgs_cons (pg_name (i := 1) scNet_text.nd rfl (Or.inl rfl)) (pgs_cons (pg_name (i := 3) scNet_text.nd rfl (Or.inl rfl)) (pgs_cons (pg_name (i := 4) scNet_text.nd rfl (Or.inl rfl)) pgs_nil)))) (pss_cons (ps_expr (pe_bm PySem.F.plainAttrs_list PySem.F.slot_list_append PySem.F.type_list_append mt_append (pv 2) (pa_cons (pe_op op_add_str (pe_op op_add_str (pe_op op_add_str pe_str (pv 1)) pe_str) (pv 3)) pa_nil)))
        (pss_one (ps_for PassesOwn.never rfl (pi_tup (pe_tup (pa_cons pe_str (pa_cons pe_str (pa_cons pe_str (pa_cons pe_str pa_nil)))))) (pg_name (i := 5) scNet_text.nd rfl (Or.inl rfl)) (pss_one (ps_if (pt_cmpR op_ne (pe_dget2 hu (pv 4) (pv 5) pe_str ⟨rfl, rfl, rfl, rfl⟩) pe_str (nomark _)) (pss_one (ps_expr (pe_bm PySem.F.plainAttrs_list PySem.F.slot_list_append PySem.F.type_list_append mt_append (pv 2) (pa_cons (pe_op op_add_str (pe_op op_add_str (pe_op op_add_str pe_str (pv 5)) pe_str) (pe_dget hu (pv 4) (pv 5) (fun _ _ => rfl))) pa_nil)))) pss_nil))))))
        (pss_one (ps_ret (pe_join pe_str (pe_op op_cat (pv 2) (pe_lc (own := [("_law_one", 7), ("_law_other", 8)]) (g := gTup K 2 (gCons (gName 7) (gCons (gName 8) gNil))) rfl scNet_text.nd (pi_list (pe_ix ix_tup (pv 0) pe_int (fun _ _ => rfl))) (blkOk_by (own := [("_law_one", 7), ("_law_other", 8)]) (N := ["_law_net_here", "_law_name", "_law_lines", "_law_home_here", "_law_rules", "_law_kind", "_law_offset_here", "_law_one", "_law_other"]) (sc := defScope (top i__law_net_text)) (by decide +kernel)) (fun _ _ _ _ _ => (pg_tup rfl (pgs_cons (pg_name (i := 7) scNet_text.nd rfl (Or.inl rfl) (Or.inr rfl)) (pgs_cons (pg_name (i := 8) scNet_text.nd rfl (Or.inl rfl) (Or.inr rfl)) pgs_nil)))) (fun _ _ _ _ _ => pts_nil) (fun _ _ _ _ _ => (pe_op op_add_str (pe_op op_add_str (pe_op op_add_str pe_str (pv 7)) pe_str) (pv 8)))))))))), ?_⟩
    obtain ⟨lt, lr, lo, vt, vr, vo, h1, h2, h3, h4, h5, h6, h7⟩ := hN.parts
    have l5 := h5.len
    have l6 := h6.len
    have l7 := h7.len
    have g1 : ("zone " : Str).length = 5 := by decide +kernel
    have g2 : (" " : Str).length = 1 := by decide +kernel
    have g3 : ("program " : Str).length = 8 := by decide +kernel
    have g4 : (" at " : Str).length = 4 := by decide +kernel
    have g5 : ("  " : Str).length = 2 := by decide +kernel
    have g6 : (" -> " : Str).length = 4 := by decide +kernel
    have g7 : ("route " : Str).length = 6 := by decide +kernel
    refine ⟨_, rfl, t, _, _, _, rfl, rfl, SqT.of h1, atI_nat (j := 0) rfl, lt, rfl, ⟨vt, SqL.of h2⟩, fun D hD => lc_list (xs := vt)
      (fun i H' => LinesAt H H' D ((N.told.take i).map zoneL)) ⟨same_upd hD, upd_same⟩ (fun i H' _ q => SqL.of (q.1 _ _ h2)) ?_ ?_⟩
    · rintro i x H1 hx hL
      obtain ⟨z, hz, c, rfl, q1⟩ := h5.at hx
      have li := (List.getElem?_eq_some_iff.mp hz).1
      have ez : N.told[i] = z := (List.getElem?_eq_some_iff.mp hz).2
      have zm := List.mem_of_getElem? hz
      have zo := ok.zname z zm
      have ln := name_len zo.1
      have so : small z.2 := small_of (by omega)
      have l3 : (Str.ofString (toString z.2)).length ≤ 61 := small_len so
      refine ⟨c, _, rfl, SqT.of (hL.1 _ _ q1), rfl, _, _, rfl, _, _, rfl, rfl, rfl, ?_⟩
      refine iteT (B := LinesAt H H1 D ((N.told.take (i + 1)).map zoneL)) ?_
      refine ⟨_, rfl, _, _, rfl, rfl, fitL (by omega), _, _, rfl, rfl, fitL (by simp only [len_app]; omega), _, rfl, _, rfl, small_log so, _, _, rfl, rfl, fitL (by simp only [len_app]; omega), ?_⟩
      refine ⟨_, hL.2, by rw [List.length_map, List.length_map, List.length_take, sizeLine_eq]; omega, ?_⟩
      rw [List.take_succ_eq_append_getElem li, List.map_append, ez]
      exact hL.put hD
    rintro H1 hL1
    rw [l5, List.take_of_length_le (Nat.le_refl _)] at hL1
    dsimp only [gName]
    refine ⟨_, rfl, t, _, _, _, rfl, rfl, SqT.of (hL1.1 _ _ h1), atI_nat (j := 1) rfl, lr, rfl, ⟨vr, SqL.of (hL1.1 _ _ h3)⟩, for_it (walk_list (xs := vr))
      (fun i σ H' => ∃ x1 x3 x4 x5 : Option V, σ = [some (.ref t), x1, some (.ref D), x3, x4, x5, none, none, none] ∧ LinesAt H H' D (N.told.map zoneL ++ (N.rows.take i).flatMap rowLs))
      ⟨none, none, none, none, rfl, by simpa using hL1⟩ ?_ ?_ ?_⟩
    · rintro i σ H' hi ⟨x1, x3, x4, x5, rfl, hL⟩
      exact SqL.of (hL.1 _ _ h3)
    · rintro i x σ H2 H2' hi ⟨x1, x3, x4, x5, rfl, hL⟩ ⟨rfl, hx⟩
      obtain ⟨r, hr1, c, b, rfl, q1, q2, q3⟩ := h6.at hx
      have li := (List.getElem?_eq_some_iff.mp hr1).1
      have er : N.rows[i] = r := (List.getElem?_eq_some_iff.mp hr1).2
      have rm := List.mem_of_getElem? hr1
      have ro := ok.row r rm
      have ln := name_len ro.nm
      have lh : r.home.length ≤ 12 := by
        obtain ⟨y, hy, e⟩ := List.mem_map.mp ro.home
        rw [← e]
        exact name_len (ok.zname y hy).1
      have ll : (N.told.map zoneL ++ (N.rows.take i).flatMap rowLs).length ≤ 200 := by
        have := rows_len (N.rows.take i)
        rw [List.length_take] at this
        rw [List.length_append, List.length_map]
        omega
      refine ⟨c, _, rfl, SqT.of (hL.1 _ _ q1), rfl, _, _, rfl, _, _, rfl, _, _, rfl, rfl, ?_⟩
      refine ⟨_, rfl, tyL hL.2, _, rfl, _, _, rfl, rfl, fitL (by omega), _, _, rfl, rfl, fitL (by simp only [len_app]; omega), _, rfl, _, _, rfl, rfl, fitL (by simp only [len_app]; omega), D, _, _, rfl, rfl, hL.2, by rw [List.length_map, sizeLine_eq]; omega, ?_⟩
      have hL2 := hL.put (z := progL r) hD
      have e0 : Str.ofString "program " ++ r.name ++ Str.ofString " at " ++ r.home = progL r := rfl
      rw [e0]
      generalize upd H2' D (.lst ((N.told.map zoneL ++ (N.rows.take i).flatMap rowLs).map V.str ++ [.str (progL r)])) = H3 at hL2 ⊢
      generalize hpre : N.told.map zoneL ++ (N.rows.take i).flatMap rowLs = pre at hL hL2 ll
      refine ⟨(by show 4 ≤ sizeLine; decide), fun tk htk => ?_⟩
      have sk := same_upd (o := .tup [.str "day", .str "float", .str "zoned", .str "fixed"]) htk
      have hL4 : LinesAt H (upd H3 tk (.tup [.str "day", .str "float", .str "zoned", .str "fixed"])) D (pre ++ [progL r]) := ⟨hL2.1.trans sk, sk _ _ hL2.2⟩
      have tkq : (upd H3 tk (.tup [.str "day", .str "float", .str "zoned", .str "fixed"])) tk = some (.tup (KS.map V.str)) := upd_same
      have tkD : tk ≠ D := (ne_of_none hL2.2 htk).symm
      generalize upd H3 tk (.tup [.str "day", .str "float", .str "zoned", .str "fixed"]) = H4 at sk hL4 tkq ⊢
      refine ⟨tk, rfl, ⟨_, SqT.of tkq⟩, for_it (walk_tup (xs := KS.map V.str))
        (fun j σ H' => ∃ x5 : Option V, σ = [some (.ref t), some (.str r.name), some (.ref D), some (.str r.home), some (.ref b), x5, none, none, none] ∧ LinesAt H H' D (pre ++ [progL r] ++ ruleLs r (KS.take j)) ∧ But D H4 H')
        ⟨x5, rfl, by simpa [ruleLs] using hL4, But.refl⟩ ?_ ?_ ?_⟩
      · rintro j σ H' hj ⟨x5, rfl, hL, bb⟩
        exact SqT.of (bb _ _ tkq tkD)
      · rintro j x σ H5 H5' hj ⟨x5, rfl, hL5, bb⟩ ⟨rfl, hx⟩
        obtain ⟨kd, hkd, rfl⟩ : ∃ z, KS[j]? = some z ∧ x = .str z := by
          rw [List.getElem?_map] at hx
          cases e : KS[j]? with
          | none => rw [e] at hx; cases hx
          | some z => exact ⟨z, rfl, by rw [e] at hx; exact (Option.some.inj hx).symm⟩
        have lj := (List.getElem?_eq_some_iff.mp hkd).1
        have ej : KS[j] = kd := (List.getElem?_eq_some_iff.mp hkd).2
        have km := List.mem_of_getElem? hkd
        have hb := hL5.1 _ _ q3
        have eg := DGet.k (k := Sum.inr kd) hb
        rw [row_get km] at eg
        have st : ruleLs r (KS.take (j + 1)) = ruleLs r (KS.take j) ++ (if r.rule kd = "keep" then [] else [ruleL kd (r.rule kd)]) := by
          unfold ruleLs
          rw [List.take_succ_eq_append_getElem lj, List.flatMap_append, ej]
          simp
        have l5 : (ruleLs r (KS.take j)).length ≤ 4 := by
          have := ruleLs_len r (KS.take j)
          rw [List.length_take] at this
          have e4 : KS.length = 4 := rfl
          omega
        refine ⟨_, rfl, b, rfl, .inl ⟨_, .inl hb⟩, _, rfl, some (.str (r.rule kd)), eg, rfl, _, rfl, ifC' (fun hn => ?_) (fun hk => ?_)⟩
        · have hn : ¬ r.rule kd = "keep" := fun z => hn (congrArg V.str z)
          rw [if_neg hn] at st
          have h1 := ks_len km
          have h2 := ruleD_len (ro.rule km)
          refine ⟨_, rfl, tyL hL5.2, _, rfl, _, _, rfl, rfl, fitL (by omega), _, _, rfl, rfl, fitL (by simp only [len_app]; omega), _, rfl, _, rfl, b, _, rfl, eg, _, _, rfl, rfl, fitL (by simp only [len_app]; omega), D, _, _, rfl, rfl, hL5.2, by rw [List.length_map, List.length_append, List.length_append, List.length_singleton, sizeLine_eq]; omega, ?_⟩
          refine ⟨_, rfl, ?_, fun c o e n => ?_⟩
          · rw [st, ← List.append_assoc]
            exact hL5.put hD
          · rw [upd_ne n]
            exact bb c o e n
        · have hk : r.rule kd = "keep" := V.str.inj hk
          rw [if_pos hk, List.append_nil] at st
          exact ⟨_, rfl, by rw [st]; exact hL5, bb⟩
      · rintro σ H5 ⟨x5, rfl, hL5, bb⟩
        refine ⟨_, _, _, _, rfl, ?_⟩
        have e : N.told.map zoneL ++ (N.rows.take (i + 1)).flatMap rowLs = pre ++ [progL r] ++ ruleLs r (KS.take (KS.map V.str).length) := by
          rw [List.take_succ_eq_append_getElem li, List.flatMap_append, er, ← List.append_assoc, hpre]
          simp [rowLs, KS]
        rw [e]
        exact hL5
    · rintro σ H2 ⟨x1, x3, x4, x5, rfl, hL⟩
      rw [l6, List.take_of_length_le (Nat.le_refl _)] at hL
      have ht := hL.1 _ _ h1
      have ho := hL.1 _ _ h4
      refine ⟨⟨_, rfl⟩, _, rfl, _, rfl, t, _, _, _, rfl, rfl, SqT.of ht, atI_nat (j := 2) rfl, lo, rfl, ⟨vo, SqL.of ho⟩, fun D2 hD2 => lc_list (xs := vo)
        (fun i H' => LinesAt H2 H' D2 ((N.routes.take i).map routeL)) ⟨same_upd hD2, upd_same⟩ (fun i H' _ q => SqL.of (q.1 _ _ ho)) ?_ ?_⟩
      · rintro i x H3 hx hL3
        obtain ⟨r, hz, c, rfl, q1⟩ := h7.at hx
        have li := (List.getElem?_eq_some_iff.mp hz).1
        have er : N.routes[i] = r := (List.getElem?_eq_some_iff.mp hz).2
        have rm := ok.rts.2 r (List.mem_of_getElem? hz)
        have nmp : ∀ z ∈ N.names, z.length ≤ 12 := fun z hz => by
          obtain ⟨y, hy, rfl⟩ := List.mem_map.mp hz
          exact name_len (ok.row y hy).nm
        have n1 := nmp _ rm.1
        have n2 := nmp _ rm.2
        refine ⟨c, _, rfl, SqT.of (hL3.1 _ _ (hL.1 _ _ q1)), rfl, _, _, rfl, _, _, rfl, rfl, rfl, ?_⟩
        refine iteT (B := LinesAt H2 H3 D2 ((N.routes.take (i + 1)).map routeL)) ?_
        refine ⟨_, rfl, _, _, rfl, rfl, fitL (by omega), _, _, rfl, rfl, fitL (by simp only [len_app]; omega), _, rfl, _, _, rfl, rfl, fitL (by simp only [len_app]; omega), ?_⟩
        refine ⟨_, hL3.2, by rw [List.length_map, List.length_map, List.length_take, sizeLine_eq]; omega, ?_⟩
        rw [List.take_succ_eq_append_getElem li, List.map_append, er]
        exact hL3.put hD2
      · rintro H3 hL3
        rw [l7, List.take_of_length_le (Nat.le_refl _)] at hL3
        have lr := rows_len N.rows
        have ll : (linesOf N).length ≤ 220 := by
          unfold linesOf
          rw [List.length_append, List.length_append, List.length_map, List.length_map]
          omega
        refine ⟨D, D2, _, _, rfl, rfl, hL3.1 _ _ hL.2, hL3.2, ?_, fun p hpp => ?_⟩
        · rw [List.length_map, List.length_map, List.length_append, List.length_map, List.length_map, sizeLine_eq]
          omega
        · have sp := same_upd (o := .lst ((N.told.map zoneL ++ N.rows.flatMap rowLs).map V.str ++ (N.routes.map routeL).map V.str)) hpp
          refine ⟨_, p, linesOf N, rfl, rfl, .inl (SqL.of ?_), ?_, k _ ((hL.1.trans hL3.1).trans sp)⟩
          · rw [upd_same]
            unfold linesOf
            rw [List.map_append, List.map_append, List.map_append]
            simp
          · have := sum_le (f := fun z : Str => z.length) (line_len ok)
            have gn : ("\n" : Str).length = 1 := by decide +kernel
            rw [gn]
            omega
end
end Wd
end
section
set_option Elab.async false
set_option linter.all false
set_option maxRecDepth 100000
set_option maxHeartbeats 1000000
namespace Wd
open PySem PySem.Spec PyProof.Rows L2 Wt TL NumText
theorem words_of {ps : List Str} (hne : ps ≠ []) (h : ∀ p ∈ ps, 32 ∉ tl p) : words (Txt.join " " ps) = ps := split_join Wt.blank Wt.blank_k hne h
/-- a def whose last parameters have defaults -/
structure DfD (P : Program) (w : World) (K : PySem.W.Frag) (mg : Str → Option Value) (base : Heap) (CX : CXT) (k : Nat) (x : Str) (ps : List Str) (dvs : List V) (sp : Sp) : Prop where
  ex : ∃ f fd ds, FnOk P w K mg base CX k f fd ps sp ∧ mg x = some (.ref f) ∧ PySem.W.keepIn K (.ref f) = true ∧ Vals dvs ds ∧ Binds K fd ps ds
section
variable {X : Cx} {CX : CXT} {k : Nat} {x : Str} {ps : List Str} {dvs : List V} {sp : Sp} {E : XK} {e : Expr} {es : List Expr} {t : TA} {p pos : Pos}
theorem pe_cdD (D : DfD X.prog X.w X.K X.mg X.base CX k x ps dvs sp) (hr : Room k X.A) (hx : Passes CX X E) (ha : PA X (e :: es) t) (hg : Gl X x := by rfl)
    (hdb : (x == ("__debug__" : Str)) = false := by decide)
    (he : starEach (e :: es) X.env = (false, eval e X.env) :: starEach es X.env := by rfl) (hpl : (backTo pos (starEach es X.env)).any (·.1) = false := by rfl) :
    PE X (.Call (.Name x p) (e :: es) [] pos) (tCall sp dvs E t) := by
  obtain ⟨f, fd, ds, G, hm, hk, hv, hb⟩ := D.ex
  exact pe_call G hr hg hm hk hb hv hx ha hdb he hpl
end
/-- the rules of a kind, as the text keeps them -/
structure Tr (K : PySem.W.Frag) (w : World) (mg : Str → Option Value) : Prop where
  RULES : mg "RULES" = some (.ref (He.ga K "RULES"))
  rk : ∀ k, k ∈ KS → k ≠ "day" → ∃ t, KDct K w (He.ga K "RULES") k (.ref t) ∧ ∀ H, SqT K H t (((rulesFor k).drop 1).map V.str)
def spIsInt : Sp := fun vs H Q _ => ∃ n : Int, vs = [.int n] ∧ Q (.bl true) H
def spIsOff : Sp := fun vs H Q _ => ∃ n : Int, vs = [.int n] ∧ -840 ≤ n ∧ n ≤ 840 ∧ Q (.bl true) H
def spDayRule : Sp := fun vs H Q _ => ∃ (l : Addr) (t : Str) (b e : Int), vs = [.ref l] ∧ H l = some (.lst ([t, strI b, strI e].map V.str)) ∧ t ∈ (["float", "zoned", "fixed"] : List Str) ∧ 0 ≤ b ∧ b ≤ e ∧ e ≤ 1439 ∧ Q (.bl true) H
def spIsRule : Sp := fun vs H Q _ => ∃ k z : Str, vs = [.str k, .str z] ∧ k ∈ KS ∧ RuleD k z ∧ z ≠ "keep" ∧ ∀ H', Same H H' → Q (.bl true) H'
theorem day_words {t : Str} {b e : Int} (ht : t ∈ (["float", "zoned", "fixed"] : List Str)) : words (t ++ " " ++ strI b ++ " " ++ strI e) = [t, strI b, strI e] := by
  have e1 : t ++ " " ++ strI b ++ " " ++ strI e = Txt.join " " [t, strI b, strI e] := by
    refine ext_tl ?_
    rw [join_eq, tl_join, Wt.blank]
    simp [tl_append, Wt.blank, joinL]
  have e2 : ∀ x ∈ (["float", "zoned", "fixed"] : List Str), 32 ∉ tl x := by decide +kernel
  rw [e1]
  refine words_of (List.cons_ne_nil _ _) fun p hp => ?_
  simp only [List.mem_cons, List.not_mem_nil, or_false] at hp
  rcases hp with rfl | rfl | rfl
  · exact e2 _ ht
  · exact free_str _
  · exact free_str _
theorem fits_of {n : Int} (h : n.natAbs < 10 ^ 30) : fitsN (some 30) n := fun d hd => by
  cases hd
  exact numL_len (by decide) h
section
variable {P : Program} {w : World} {K : PySem.W.Frag} {mg : Str → Option Value} {base : Heap} {f : Addr} {fd : FuncData}
theorem scIs_integer : FnScope ["value"] ["value"] (defScope (top i_is_integer)) := ⟨rfl, rfl, rfl, by decide +kernel, rfl, by decide +kernel, by decide +kernel⟩
theorem ok_isInt (F : FnG K "is_integer" i_is_integer f fd) (T : Tx K mg) : FnOk P w K mg base CX0 1 f fd ["value"] spIsInt := by
  refine F.ok scIs_integer (fun vs H Q E h => ?_) (fun cdv A outer s H vs Q E hr h => ?_)
  · obtain ⟨n, rfl, _⟩ := h
    rfl
  · obtain ⟨n, rfl, k⟩ := h
    refine ⟨_, PSs.nox (pss_one (ps_ret (pe_and (pe_callB call_isi (by rfl) T.isinstance (by decide +kernel) (pa_cons (pv 0) (pa_cons (pe_bltn (v := .ty "int") (by rfl) T.int (by decide +kernel) rfl) pa_nil))) (pe_one (pe_not (pe_callB call_isi (by rfl) T.isinstance (by decide +kernel) (pa_cons (pv 0) (pa_cons (pe_bltn (v := .ty "bool") (by rfl) T.bool (by decide +kernel) rfl) pa_nil)))))))), ?_⟩
    refine ⟨_, rfl, .int n, .ty "int", .type "int", .type "int", true, rfl, .ty _, .base (.int _), kit_ty (by decide +kernel), true, rfl, iteT ?_⟩
    exact ⟨_, rfl, .int n, .ty "bool", .type "int", .type "bool", false, rfl, .ty _, .base (.int _), kit_ty (by decide +kernel), false, rfl, k⟩
structure DOff (P : Program) (w : World) (K : PySem.W.Frag) (mg : Str → Option Value) (base : Heap) : Prop where
  is_integer : Df P w K mg base CX0 1 "is_integer" ["value"] spIsInt
theorem scIs_offset : FnScope ["value"] ["value"] (defScope (top i_is_offset)) := ⟨rfl, rfl, rfl, by decide +kernel, rfl, by decide +kernel, by decide +kernel⟩
theorem ok_isOff (F : FnG K "is_offset" i_is_offset f fd) (T : Tx K mg) (D : DOff P w K mg base) : FnOk P w K mg base CX0 2 f fd ["value"] spIsOff := by
  refine F.ok scIs_offset (fun vs H Q E h => ?_) (fun cdv A outer s H vs Q E hr h => ?_)
  · obtain ⟨n, rfl, _⟩ := h
    rfl
  · obtain ⟨n, rfl, h1, h2, k⟩ := h
    obtain ⟨tM, hMO⟩ := T.MO
    refine ⟨_, PSs.nox (pss_one (ps_ret (pe_and (pe_cd D.is_integer (hr.mono (by decide)) pass0 (pa_cons (pv 0) pa_nil)) (pe_one (pe_chain op_le op_le (pe_un un_neg (pe_glob (v := .int 840) rfl hMO ⟨_, rfl⟩)) (pv 0) (pe_glob (v := .int 840) rfl hMO ⟨_, rfl⟩)))))), ?_⟩
    refine ⟨_, rfl, n, rfl, true, rfl, iteT ?_⟩
    refine ⟨_, rfl, _, rfl, _, _, rfl, rfl, _, rfl, ifT (by omega) ?_⟩
    refine ⟨_, _, rfl, rfl, ?_⟩
    show Q (.bl (decide (n ≤ 840))) H
    rw [decide_eq_true h2]
    exact k
structure DDay (P : Program) (w : World) (K : PySem.W.Frag) (mg : Str → Option Value) (base : Heap) : Prop where
  number_in : DfD P w K mg base CX0 1 "number_in" ["word", "digits"] [.int 30] spNum
theorem scIs_day_rule : FnScope ["words", "early", "late"] ["words"] (defScope (top i__is_day_rule)) := ⟨rfl, rfl, rfl, by decide +kernel, rfl, by decide +kernel, by decide +kernel⟩
theorem ok_dayRule (F : FnG K "_is_day_rule" i__is_day_rule f fd) (T : Tx K mg) (D : DDay P w K mg base) : FnOk P w K mg base CX0 2 f fd ["words"] spDayRule := by
  refine F.ok scIs_day_rule (fun vs H Q E h => ?_) (fun cdv A outer s H vs Q E hr h => ?_)
  · obtain ⟨l, t, b, e, rfl, _⟩ := h
    rfl
  · obtain ⟨l, t, b, e, rfl, hl, ht, h0, hbe, he, k⟩ := h
    obtain ⟨tM, hLM⟩ := T.LM
    refine ⟨_, PSs.nox (pss_cons (ps_if (PW.pt (pw_or (pt_cmpR op_ne (pe_callB call_len (by rfl) T.len PySem.boot_len (pa_cons (pv 0) pa_nil)) pe_int (nomark _)) (pw_or1 (pt_cmpR op_notIn_seq (pe_ix ix_list (pv 0) pe_int (fun _ _ => rfl)) (pe_glob (v := .ref (He.ga K "CLOCKED")) rfl T.CLOCKED rfl) (by rfl))))) (pss_one (ps_ret pe_bl)) pss_nil)
        (pss_cons (ps_set (i := 1) scIs_day_rule.nd rfl (Or.inl rfl) (pe_cdD D.number_in (hr.mono (by decide)) pass0 (pa_cons (pe_ix ix_list (pv 0) pe_int (fun _ _ => rfl)) pa_nil)))
        (pss_cons (ps_set (i := 2) scIs_day_rule.nd rfl (Or.inl rfl) (pe_cdD D.number_in (hr.mono (by decide)) pass0 (pa_cons (pe_ix ix_list (pv 0) pe_int (fun _ _ => rfl)) pa_nil)))
        (pss_cons (ps_if (PW.pt (pw_or (pt_cmpR op_isN (pv 1) pe_non (nomark _)) (pw_or1 (pt_cmpR op_isN (pv 2) pe_non (nomark _))))) (pss_one (ps_ret pe_bl)) pss_nil)
        (pss_one (ps_ret (pe_chain3 op_le op_le op_le pe_int (pv 1) (pv 2) (pe_glob (v := .int 1439) rfl hLM ⟨_, rfl⟩)))))))), ?_⟩
    have hin : inV (.str t) [.str "float", .str "zoned", .str "fixed"] = true := by
      simp only [List.mem_cons, List.not_mem_nil, or_false] at ht
      rcases ht with rfl | rfl | rfl <;> decide +kernel
    have sb := small_len (small_of (show b.natAbs ≤ 100000000000000000000000000000000 by omega))
    have se := small_len (small_of (show e.natAbs ≤ 100000000000000000000000000000000 by omega))
    have e30 : (10 : Nat) ^ 30 = 1000000000000000000000000000000 := by decide +kernel
    have nb := numR_str (fits_of (n := b) (by rw [e30]; omega))
    have ne := numR_str (fits_of (n := e) (by rw [e30]; omega))
    refine ⟨_, rfl, _, 3, rfl, .inl ⟨_, SqL.of hl, rfl⟩, rfl, _, rfl, ifN rfl ?_⟩
    refine ⟨_, rfl, l, _, _, .str t, rfl, rfl, SqL.of hl, atI_nat (j := 0) rfl, _, _, rfl, .inr (T.clocked H), rfl, rfl, _, rfl, ifN (by rw [hin]; rfl) ?_⟩
    refine ⟨_, rfl, l, _, _, _, rfl, rfl, SqL.of hl, atI_nat (j := 1) rfl, strI b, some 30, rfl, by omega, ?_⟩
    rw [nb]
    refine ⟨_, rfl, l, _, _, _, rfl, rfl, SqL.of hl, atI_nat (j := 2) rfl, strI e, some 30, rfl, by omega, ?_⟩
    rw [ne]
    refine ⟨_, rfl, rfl, _, rfl, ifN rfl ⟨_, rfl, rfl, _, rfl, ifN rfl ?_⟩⟩
    refine ⟨_, rfl, _, _, rfl, rfl, _, rfl, ifT h0 ⟨_, rfl, _, _, rfl, rfl, _, rfl, ifT hbe ⟨_, _, rfl, rfl, ?_⟩⟩⟩
    show Q (.bl (decide (e ≤ 1439))) H
    rw [decide_eq_true he]
    exact k
structure DIsR (P : Program) (w : World) (K : PySem.W.Frag) (mg : Str → Option Value) (base : Heap) : Prop where
  is_day_rule : Df P w K mg base CX0 2 "_is_day_rule" ["words"] spDayRule
theorem scIs_rule : FnScope ["kind", "rule"] ["kind", "rule"] (defScope (top i_is_rule)) := ⟨rfl, rfl, rfl, by decide +kernel, rfl, by decide +kernel, by decide +kernel⟩
theorem ok_isRule (F : FnG K "is_rule" i_is_rule f fd) (T : Tx K mg) (R : Tr K w mg) (D : DIsR P w K mg base) : FnOk P w K mg base CX0 3 f fd ["kind", "rule"] spIsRule := by
  refine F.ok scIs_rule (fun vs H Q E h => ?_) (fun cdv A outer s H vs Q E hr h => ?_)
  · obtain ⟨kd, z, rfl, _⟩ := h
    rfl
  · obtain ⟨kd, z, rfl, hk, hz, hn, k⟩ := h
    obtain ⟨tK, hKE⟩ := T.KEEP
    refine ⟨_, PSs.nox (pss_cons (ps_if (pt_not (pt_val (pe_callB call_isi (by rfl) T.isinstance (by decide +kernel) (pa_cons (pv 1) (pa_cons (pe_bltn (v := .ty "str") (by rfl) T.str (by decide +kernel) rfl) pa_nil))))) (pss_one (ps_ret pe_bl)) pss_nil)
        (pss_cons (ps_if (pt_cmpR op_eq (pv 1) (pe_glob (v := .str "keep") rfl hKE ⟨_, rfl⟩) (nomark _)) (pss_one (ps_ret pe_bl)) pss_nil)
        (pss_cons (ps_if (pt_cmpR op_eq (pv 0) pe_str (nomark _)) (pss_one (ps_ret (pe_cd D.is_day_rule (hr.mono (by decide)) pass0 (pa_cons (pe_split (pv 1) pe_str) pa_nil)))) pss_nil)
        (pss_one (ps_ret (pe_cmpR op_in_seq (pv 1) (pe_ix ix_kdict (pe_glob (v := .ref (He.ga K "RULES")) rfl R.RULES rfl) (pv 0) (fun _ _ => rfl)) (by rfl))))))), ?_⟩
    have lz := ruleD_len hz
    refine ⟨_, rfl, .str z, .ty "str", .type "str", .type "str", true, rfl, .ty _, .base (.str _), kit_ty (by decide +kernel), true, rfl, ifN rfl ?_⟩
    refine ⟨_, rfl, rfl, _, rfl, ifF (fun e => hn (V.str.inj e)) ?_⟩
    refine ⟨_, rfl, rfl, _, rfl, ifC (fun h => ?_) (fun h => ?_)⟩
    · have hd : kd = "day" := V.str.inj h
      rcases hz with ⟨h1, _⟩ | ⟨_, h1 | ⟨t, ht, tn, b, e, b0, be, e1, rfl⟩⟩
      · exact absurd hd h1
      · exact absurd h1 hn
      have ht3 : t ∈ (["float", "zoned", "fixed"] : List Str) := by
        have e0 : rulesFor "day" = (["keep", "float", "zoned", "fixed"] : List Str) := by unfold rulesFor; rw [if_pos rfl]
        rw [e0] at ht
        rcases List.mem_cons.mp ht with h | h
        · exact absurd h tn
        · exact h
      have ew := day_words (b := b) (e := e) ht3
      refine ⟨_, rfl, ⟨_, rfl⟩, _, _, rfl, rfl, (by decide +kernel), fitL (by omega), fun l hl => ?_⟩
      have eq : (upd H l (.lst ((Txt.split (t ++ " " ++ strI b ++ " " ++ strI e) " ").map V.str))) l = some (.lst ([t, strI b, strI e].map V.str)) := by
        rw [upd_same]
        show some (HO.lst ((words (t ++ " " ++ strI b ++ " " ++ strI e)).map V.str)) = _
        rw [ew]
      exact ⟨l, t, b, e, rfl, eq, ht3, b0, be, e1, k _ (same_upd hl)⟩
    · have hd : ¬ kd = "day" := fun z => h (congrArg V.str z)
      have hm : z ∈ (rulesFor kd).drop 1 := by
        rcases hz with ⟨_, h1⟩ | ⟨h1, _⟩
        · have e0 : ∃ r : List Str, rulesFor kd = ("keep" : Str) :: r := by
            unfold rulesFor
            split
            · exact ⟨_, rfl⟩
            split
            · exact ⟨_, rfl⟩
            split
            · exact ⟨_, rfl⟩
            · exact ⟨_, rfl⟩
          obtain ⟨r, e0⟩ := e0
          rw [e0] at h1 ⊢
          rcases List.mem_cons.mp h1 with h | h
          · exact absurd h hn
          · exact h
        · exact absurd h1 hd
      obtain ⟨t, kd1, sq⟩ := R.rk kd hk hd
      have hin : inV (.str z) (((rulesFor kd).drop 1).map V.str) = true := by
        simp only [inV, List.any_map, List.any_eq_true]
        exact ⟨z, hm, by simp [eqV]⟩
      refine ⟨_, rfl, _, rfl, _, kd, .ref t, rfl, rfl, kd1, _, _, rfl, .inr (sq H), rfl, ?_, ?_⟩
      · show (((rulesFor kd).drop 1).map V.str).all flatV = true
        rw [List.all_eq_true]
        intro x hx
        obtain ⟨y, _, rfl⟩ := List.mem_map.mp hx
        rfl
      · show Q (.bl (inV (.str z) (((rulesFor kd).drop 1).map V.str))) H
        rw [hin]
        exact k H (Same.refl H)
end
end Wd
end
section
set_option Elab.async false
set_option linter.all false
set_option maxRecDepth 100000
set_option maxHeartbeats 1000000
namespace Wd
open PySem PySem.Spec PyProof.Rows L2 Wt TL NumText
/-- what is read so far -/
structure PSt where
  zs : List (Str × Int)
  hs : List (Str × Str)
  rs : List ((Str × Str) × Str)
  os : List (Str × Str)
def offD (zs : List (Str × Int)) : List (Key × V) := zs.map fun z => (Sum.inr z.1, V.int z.2)
def homD (hs : List (Str × Str)) : List (Key × V) := hs.map fun z => (Sum.inr z.1, V.str z.2)
def rulD (rs : List ((Str × Str) × Str)) : List (List Key × V) := rs.map fun r => ([Sum.inr r.1.1, Sum.inr r.1.2], V.str r.2)
def rouD (os : List (Str × Str)) : List (List Key × V) := os.map fun r => ([Sum.inr r.1, Sum.inr r.2], V.bl true)
def pFs (a1 a2 a3 a4 : Addr) : List (Str × V) := putF "routes" (.ref a4) (putF "rules" (.ref a3) (putF "homes" (.ref a2) (putF "offsets" (.ref a1) [])))
section
variable {a1 a2 a3 a4 : Addr}
theorem pf1 : (pFs a1 a2 a3 a4).lookup ("offsets" : Str) = some (.ref a1) := by
  unfold pFs
  rw [lookup_putF, if_neg (by decide +kernel), lookup_putF, if_neg (by decide +kernel), lookup_putF, if_neg (by decide +kernel), lookup_putF, if_pos rfl]
theorem pf2 : (pFs a1 a2 a3 a4).lookup ("homes" : Str) = some (.ref a2) := by
  unfold pFs
  rw [lookup_putF, if_neg (by decide +kernel), lookup_putF, if_neg (by decide +kernel), lookup_putF, if_pos rfl]
theorem pf3 : (pFs a1 a2 a3 a4).lookup ("rules" : Str) = some (.ref a3) := by
  unfold pFs
  rw [lookup_putF, if_neg (by decide +kernel), lookup_putF, if_pos rfl]
theorem pf4 : (pFs a1 a2 a3 a4).lookup ("routes" : Str) = some (.ref a4) := by
  unfold pFs
  rw [lookup_putF, if_pos rfl]
end
/-- the places of what is read: the parts and their four dicts -/
structure PA4 where
  x : Addr
  a1 : Addr
  a2 : Addr
  a3 : Addr
  a4 : Addr
/-- at them the parts -/
structure PartsAt (C : Addr) (p : PA4) (H : Hp) (s : PSt) : Prop where
  at_ : ∃ dx, H p.x = some (.ins C dx (pFs p.a1 p.a2 p.a3 p.a4))
  o : H p.a1 = some (.dK (offD s.zs))
  h : H p.a2 = some (.dK (homD s.hs))
  r : H p.a3 = some (.dT (rulD s.rs))
  t : H p.a4 = some (.dT (rouD s.os))
  n12 : p.a1 ≠ p.a2
  n34 : p.a3 ≠ p.a4
/-- all but the four dicts as it was -/
def ButP (p : PA4) (H H' : Hp) : Prop := ∀ c o, H c = some o → c ≠ p.a1 → c ≠ p.a2 → c ≠ p.a3 → c ≠ p.a4 → H' c = some o
theorem ButP.same {p : PA4} {H H' : Hp} (s : Same H H') : ButP p H H' := fun c o h _ _ _ _ => s c o h
theorem ButP.trans {p : PA4} {H H1 H2 : Hp} (x : ButP p H H1) (y : ButP p H1 H2) : ButP p H H2 := fun c o h n1 n2 n3 n4 => y c o (x c o h n1 n2 n3 n4) n1 n2 n3 n4
theorem PartsAt.same {C : Addr} {p : PA4} {H H' : Hp} {s : PSt} (e : Same H H') (h : PartsAt C p H s) : PartsAt C p H' s := by
  obtain ⟨⟨dx, h0⟩, h1, h2, h3, h4, n1, n2⟩ := h
  exact ⟨⟨dx, e _ _ h0⟩, e _ _ h1, e _ _ h2, e _ _ h3, e _ _ h4, n1, n2⟩
theorem kd_none {β : Type} {g : β → V} : ∀ {zs : List (Str × β)} {k : Str}, k ∉ zs.map Prod.fst → valV (zs.map fun z => ((Sum.inr z.1 : Key), g z.2)) (.inr k) = none
  | [], _, _ => rfl
  | z :: zs, k, h => by
    rw [List.map_cons, valV_neg]
    · exact kd_none fun q => h (List.mem_cons_of_mem _ q)
    · intro e
      exact h (by rw [← Sum.inr.inj e]; exact List.mem_cons_self)
theorem kd_some {β : Type} {g : β → V} : ∀ {zs : List (Str × β)} {k : Str}, k ∈ zs.map Prod.fst → (valV (zs.map fun z => ((Sum.inr z.1 : Key), g z.2)) (.inr k)).isSome = true
  | [], _, h => by cases h
  | z :: zs, k, h => by
    rw [List.map_cons]
    by_cases e : z.1 = k
    · rw [valV_pos (congrArg Sum.inr e)]
      rfl
    · rw [valV_neg fun q => e (Sum.inr.inj q)]
      refine kd_some ?_
      rcases List.mem_cons.mp h with q | q
      · exact absurd q.symm e
      · exact q
theorem td_none {β : Type} {g : β → V} : ∀ {zs : List ((Str × Str) × β)} {k : Str × Str}, k ∉ zs.map Prod.fst → valV (zs.map fun z => (([Sum.inr z.1.1, Sum.inr z.1.2] : List Key), g z.2)) [.inr k.1, .inr k.2] = none
  | [], _, _ => rfl
  | z :: zs, k, h => by
    rw [List.map_cons, valV_neg]
    · exact td_none fun q => h (List.mem_cons_of_mem _ q)
    · intro e
      have e1 := Sum.inr.inj (List.cons.inj e).1
      have e2 := Sum.inr.inj (List.cons.inj (List.cons.inj e).2).1
      exact h (by rw [show k = z.1 from Prod.ext e1.symm e2.symm]; exact List.mem_cons_self)
/-- the facts of the class of the parts -/
structure Tp (K : PySem.W.Frag) (mg : Str → Option Value) : Prop where
  cl : Cls K (He.ga K "Parts")
  n1 : NoAttr K (He.ga K "Parts") "offsets"
  n2 : NoAttr K (He.ga K "Parts") "homes"
  n3 : NoAttr K (He.ga K "Parts") "rules"
  n4 : NoAttr K (He.ga K "Parts") "routes"
def spTZone (C : Addr) : Sp := fun vs H Q _ => ∃ (p : PA4) (l : Addr) (s : PSt) (z : Str × Int), vs = [.ref p.x, .ref l] ∧ PartsAt C p H s ∧ H l = some (.lst ((["zone", z.1, strI z.2] : List Str).map V.str)) ∧ s.hs = [] ∧ s.zs.length < 6 ∧
  nameL (tl z.1) ∧ z.1 ∉ s.zs.map Prod.fst ∧ -840 ≤ z.2 ∧ z.2 ≤ 840 ∧ ∀ H', PartsAt C p H' { s with zs := s.zs ++ [z] } → ButP p H H' → Q (.bl true) H'
def spTProg (C : Addr) : Sp := fun vs H Q _ => ∃ (p : PA4) (l : Addr) (s : PSt) (z : Str × Str), vs = [.ref p.x, .ref l] ∧ PartsAt C p H s ∧ H l = some (.lst ((["program", z.1, "at", z.2] : List Str).map V.str)) ∧ s.os = [] ∧ s.hs.length < 12 ∧
  nameL (tl z.1) ∧ z.1 ∉ s.hs.map Prod.fst ∧ z.2 ∈ s.zs.map Prod.fst ∧ ∀ H', PartsAt C p H' { s with hs := s.hs ++ [z] } → ButP p H H' → Q (.bl true) H'
def spTRoute (C : Addr) : Sp := fun vs H Q _ => ∃ (p : PA4) (l : Addr) (s : PSt) (z : Str × Str), vs = [.ref p.x, .ref l] ∧ PartsAt C p H s ∧ H l = some (.lst ((["route", z.1, z.2] : List Str).map V.str)) ∧ s.os.length < 40 ∧
  z.1 ∈ s.hs.map Prod.fst ∧ z.2 ∈ s.hs.map Prod.fst ∧ z ∉ s.os ∧ ∀ H', PartsAt C p H' { s with os := s.os ++ [z] } → ButP p H H' → Q (.bl true) H'
section
variable {P : Program} {w : World} {K : PySem.W.Frag} {mg : Str → Option Value} {base : Heap} {f : Addr} {fd : FuncData}
structure DTake (P : Program) (w : World) (K : PySem.W.Frag) (mg : Str → Option Value) (base : Heap) : Prop extends DDay P w K mg base where
  is_name : Df P w K mg base CX0 1 "is_name" ["value"] spName
  is_offset : Df P w K mg base CX0 2 "is_offset" ["value"] spIsOff
theorem scTake_zone : FnScope ["self", "words", "_", "name", "figures", "offset"] ["self", "words"] (defScope (inClass (top i_Parts) j_Parts_take_zone)) := ⟨rfl, rfl, rfl, by decide +kernel, rfl, by decide +kernel, by decide +kernel⟩
theorem ok_tZone (F : FunD K "take_zone" "Parts.take_zone" (defArgs (inClass (top i_Parts) j_Parts_take_zone)) (defBody (inClass (top i_Parts) j_Parts_take_zone)) (defScope (inClass (top i_Parts) j_Parts_take_zone)) [] [] f fd) (T : Tx K mg) (Z : Tp K mg) (D : DTake P w K mg base) :
    FnOk P w K mg base CX0 3 f fd ["self", "words"] (spTZone (He.ga K "Parts")) := by
  refine F.ok scTake_zone (fun vs H Q E h => ?_) (fun cdv A outer s H vs Q E hr h => ?_)
  · obtain ⟨p, l, st, z, rfl, _⟩ := h
    rfl
  · obtain ⟨p, l, st, z, rfl, hp, hl, h0, h6, nm, nz, o1, o2, k⟩ := h
    have hu := hu_of hr
    obtain ⟨tM, hMZ⟩ := T.MZ
    refine ⟨_, PSs.nox (pss_cons (ps_if (PW.pt (pw_or (pt_cmpR op_ne (pe_callB call_len (by rfl) T.len PySem.boot_len (pa_cons (pv 1) pa_nil)) pe_int (nomark _)) (pw_or (pt_truth (pe_fld (pv 0) rfl) (fun _ => rfl)) (pw_or1 (pt_cmpR op_ge (pe_callB call_lenD (by rfl) T.len PySem.boot_len (pa_cons (pe_fld (pv 0) rfl) pa_nil)) (pe_glob (v := .int 6) rfl hMZ ⟨_, rfl⟩) (nomark _)))))) (pss_one (ps_ret pe_bl)) pss_nil)
        (pss_cons (ps_asg (pv 1) (pg_unl rfl (pgs_cons (pg_name (i := 2) scTake_zone.nd rfl (Or.inl rfl)) (pgs_cons (pg_name (i := 3) scTake_zone.nd rfl (Or.inl rfl)) (pgs_cons (pg_name (i := 4) scTake_zone.nd rfl (Or.inl rfl)) pgs_nil)))))
        (pss_cons (ps_set (i := 5) scTake_zone.nd rfl (Or.inl rfl) (pe_cdD D.number_in (hr.mono (by decide)) pass0 (pa_cons (pv 4) pa_nil)))
        (pss_cons (ps_if (PW.pt (pw_or (pt_not (pt_val (pe_cd D.is_name (hr.mono (by decide)) pass0 (pa_cons (pv 3) pa_nil)))) (pw_or (pt_cmp (pc_din hu (pv 3) (pe_fld (pv 0) rfl))) (pw_or1 (pt_not (pt_val (pe_cd D.is_offset (hr.mono (by decide)) pass0 (pa_cons (pv 5) pa_nil)))))))) (pss_one (ps_ret pe_bl)) pss_nil)
        (pss_cons (ps_dput hu (pe_fld (pv 0) rfl) (pv 3) (pv 5) rfl)
        (pss_one (ps_ret pe_bl))))))), ?_⟩
    obtain ⟨⟨dx, q0⟩, q1, q2, q3, q4, n12, n34⟩ := id hp
    rw [h0] at q2
    have so := small_len (small_of (show z.2.natAbs ≤ 100000000000000000000000000000000 by omega))
    have e30 : (10 : Nat) ^ 30 = 1000000000000000000000000000000 := by decide +kernel
    have nb := numR_str (fits_of (n := z.2) (by rw [e30]; omega))
    have ln := name_len nm
    refine ⟨_, rfl, _, 3, rfl, .inl ⟨_, SqL.of hl, rfl⟩, rfl, _, rfl, ifN rfl ?_⟩
    refine ⟨_, rfl, p.x, _, dx, _, _, rfl, q0, Z.cl, Z.n2, pf2, false, .inr (.inr ⟨_, q2, rfl⟩), ifN rfl ?_⟩
    refine ⟨_, rfl, p.x, _, dx, _, _, rfl, q0, Z.cl, Z.n1, pf1, p.a1, _, rfl, q1, _, _, rfl, rfl, _, rfl, ifF (by unfold offD; rw [List.length_map]; omega) ?_⟩
    refine ⟨_, rfl, l, _, rfl, SqL.of hl, rfl, _, _, rfl, _, _, rfl, _, _, rfl, rfl, ?_⟩
    refine ⟨_, rfl, strI z.2, some 30, rfl, by omega, ?_⟩
    rw [nb]
    refine ⟨_, rfl, z.1, rfl, by omega, fun b hb => ⟨b, rfl, ?_⟩⟩
    rw [hb.mpr nm]
    refine ifN rfl ?_
    have dg := DGet.k (k := Sum.inr z.1) q1
    rw [show valV (offD st.zs) (Sum.inr z.1) = none from kd_none nz] at dg
    refine ⟨_, rfl, _, rfl, p.x, _, dx, _, _, rfl, q0, Z.cl, Z.n1, pf1, p.a1, none, rfl, dg, _, rfl, ifN rfl ?_⟩
    refine ⟨_, rfl, z.2, rfl, o1, o2, _, rfl, ifN rfl ?_⟩
    have ll : (offD st.zs).length < sizeLine := by unfold offD; rw [List.length_map, sizeLine_eq]; omega
    have dp := DPut.k (k := Sum.inr z.1) (v := .int z.2) q1 ll
    rw [putK_new _ (show valV (offD st.zs) (Sum.inr z.1) = none from kd_none nz)] at dp
    refine ⟨_, rfl, _, rfl, p.x, _, dx, _, _, rfl, q0, Z.cl, Z.n1, pf1, _, rfl, p.a1, _, rfl, dp, ?_⟩
    refine k _ ⟨⟨dx, ?_⟩, ?_, ?_, ?_, ?_, n12, n34⟩ (fun c o e m1 _ _ _ => by rw [upd_ne m1]; exact e)
    · rw [upd_ne (fun e => by rw [e, q1] at q0; cases q0)]
      exact q0
    · rw [upd_same]
      unfold offD
      rw [List.map_append]
      rfl
    · rw [upd_ne n12.symm]
      exact hp.h
    · rw [upd_ne (fun e => by rw [e, q1] at q3; cases q3)]
      exact q3
    · rw [upd_ne (fun e => by rw [e, q1] at q4; cases q4)]
      exact q4
theorem scTake_program : FnScope ["self", "words", "_", "name", "home"] ["self", "words"] (defScope (inClass (top i_Parts) j_Parts_take_program)) := ⟨rfl, rfl, rfl, by decide +kernel, rfl, by decide +kernel, by decide +kernel⟩
theorem ok_tProg (F : FunD K "take_program" "Parts.take_program" (defArgs (inClass (top i_Parts) j_Parts_take_program)) (defBody (inClass (top i_Parts) j_Parts_take_program)) (defScope (inClass (top i_Parts) j_Parts_take_program)) [] [] f fd) (T : Tx K mg) (Z : Tp K mg) (D : DTake P w K mg base) :
    FnOk P w K mg base CX0 3 f fd ["self", "words"] (spTProg (He.ga K "Parts")) := by
  refine F.ok scTake_program (fun vs H Q E h => ?_) (fun cdv A outer s H vs Q E hr h => ?_)
  · obtain ⟨p, l, st, z, rfl, _⟩ := h
    rfl
  · obtain ⟨p, l, st, z, rfl, hp, hl, h0, h6, nm, nz, hz, k⟩ := h
    have hu := hu_of hr
    obtain ⟨tM, hMP⟩ := T.MP
    refine ⟨_, PSs.nox (pss_cons (ps_if (PW.pt (pw_or (pt_cmpR op_ne (pe_callB call_len (by rfl) T.len PySem.boot_len (pa_cons (pv 1) pa_nil)) pe_int (nomark _)) (pw_or (pt_cmpR op_ne (pe_ix ix_list (pv 1) pe_int (fun _ _ => rfl)) pe_str (nomark _)) (pw_or (pt_truthR (pe_fld (pv 0) rfl) tru_dT (fun _ => rfl)) (pw_or1 (pt_cmpR op_ge (pe_callB call_lenD (by rfl) T.len PySem.boot_len (pa_cons (pe_fld (pv 0) rfl) pa_nil)) (pe_glob (v := .int 12) rfl hMP ⟨_, rfl⟩) (nomark _))))))) (pss_one (ps_ret pe_bl)) pss_nil)
        (pss_cons (ps_asg (pv 1) (pg_unl rfl (pgs_cons (pg_name (i := 2) scTake_program.nd rfl (Or.inl rfl)) (pgs_cons (pg_name (i := 3) scTake_program.nd rfl (Or.inl rfl)) (pgs_cons (pg_name (i := 2) scTake_program.nd rfl (Or.inl rfl)) (pgs_cons (pg_name (i := 4) scTake_program.nd rfl (Or.inl rfl)) pgs_nil))))))
        (pss_cons (ps_if (PW.pt (pw_or (pt_not (pt_val (pe_cd D.is_name (hr.mono (by decide)) pass0 (pa_cons (pv 3) pa_nil)))) (pw_or (pt_cmp (pc_din hu (pv 3) (pe_fld (pv 0) rfl))) (pw_or1 (pt_cmp (pc_dnotin hu (pv 4) (pe_fld (pv 0) rfl))))))) (pss_one (ps_ret pe_bl)) pss_nil)
        (pss_cons (ps_dput hu (pe_fld (pv 0) rfl) (pv 3) (pv 4) rfl)
        (pss_one (ps_ret pe_bl)))))), ?_⟩
    obtain ⟨⟨dx, q0⟩, q1, q2, q3, q4, n12, n34⟩ := id hp
    rw [h0] at q4
    have ln := name_len nm
    refine ⟨_, rfl, _, 4, rfl, .inl ⟨_, SqL.of hl, rfl⟩, rfl, _, rfl, ifN rfl ?_⟩
    refine ⟨_, rfl, l, _, _, _, rfl, rfl, SqL.of hl, atI_nat (j := 2) rfl, rfl, _, rfl, ifN (by decide +kernel) ?_⟩
    refine ⟨_, rfl, p.x, _, dx, _, _, rfl, q0, Z.cl, Z.n4, pf4, p.a4, _, rfl, q4, ifN rfl ?_⟩
    refine ⟨_, rfl, p.x, _, dx, _, _, rfl, q0, Z.cl, Z.n2, pf2, p.a2, _, rfl, q2, _, _, rfl, rfl, _, rfl, ifF (by unfold homD; rw [List.length_map]; omega) ?_⟩
    refine ⟨_, rfl, l, _, rfl, SqL.of hl, rfl, _, _, rfl, _, _, rfl, _, _, rfl, _, _, rfl, rfl, ?_⟩
    refine ⟨_, rfl, z.1, rfl, by omega, fun b hb => ⟨b, rfl, ?_⟩⟩
    rw [hb.mpr nm]
    refine ifN rfl ?_
    have dg := DGet.k (k := Sum.inr z.1) q2
    rw [show valV (homD st.hs) (Sum.inr z.1) = none from kd_none nz] at dg
    refine ⟨_, rfl, _, rfl, p.x, _, dx, _, _, rfl, q0, Z.cl, Z.n2, pf2, p.a2, none, rfl, dg, _, rfl, ifN rfl ?_⟩
    have dz := DGet.k (k := Sum.inr z.2) q1
    have sz : (valV (offD st.zs) (Sum.inr z.2)).isSome = true := kd_some hz
    refine ⟨_, rfl, _, rfl, p.x, _, dx, _, _, rfl, q0, Z.cl, Z.n1, pf1, p.a1, _, rfl, dz, _, rfl, ifN (by rw [sz]; rfl) ?_⟩
    have ll : (homD st.hs).length < sizeLine := by unfold homD; rw [List.length_map, sizeLine_eq]; omega
    have dp := DPut.k (k := Sum.inr z.1) (v := .str z.2) q2 ll
    rw [putK_new _ (show valV (homD st.hs) (Sum.inr z.1) = none from kd_none nz)] at dp
    refine ⟨_, rfl, _, rfl, p.x, _, dx, _, _, rfl, q0, Z.cl, Z.n2, pf2, _, rfl, p.a2, _, rfl, dp, ?_⟩
    refine k _ ⟨⟨dx, ?_⟩, ?_, ?_, ?_, ?_, n12, n34⟩ (fun c o e _ m2 _ _ => by rw [upd_ne m2]; exact e)
    · rw [upd_ne (fun e => by rw [e, q2] at q0; cases q0)]
      exact q0
    · rw [upd_ne n12]
      exact q1
    · rw [upd_same]
      unfold homD
      rw [List.map_append]
      rfl
    · rw [upd_ne (fun e => by rw [e, q2] at q3; cases q3)]
      exact q3
    · rw [upd_ne (fun e => by rw [e, q2] at q4; cases q4)]
      exact hp.t
theorem scTake_route : FnScope ["self", "words", "_", "start", "goal"] ["self", "words"] (defScope (inClass (top i_Parts) j_Parts_take_route)) := ⟨rfl, rfl, rfl, by decide +kernel, rfl, by decide +kernel, by decide +kernel⟩
theorem ok_tRoute (F : FunD K "take_route" "Parts.take_route" (defArgs (inClass (top i_Parts) j_Parts_take_route)) (defBody (inClass (top i_Parts) j_Parts_take_route)) (defScope (inClass (top i_Parts) j_Parts_take_route)) [] [] f fd) (T : Tx K mg) (Z : Tp K mg) (D : DTake P w K mg base) :
    FnOk P w K mg base CX0 2 f fd ["self", "words"] (spTRoute (He.ga K "Parts")) := by
  refine F.ok scTake_route (fun vs H Q E h => ?_) (fun cdv A outer s H vs Q E hr h => ?_)
  · obtain ⟨p, l, st, z, rfl, _⟩ := h
    rfl
  · obtain ⟨p, l, st, z, rfl, hp, hl, h6, hs, hg, hz, k⟩ := h
    have hu := hu_of hr
    obtain ⟨tM, hMR⟩ := T.MR
    refine ⟨_, PSs.nox (pss_cons (ps_if (PW.pt (pw_or (pt_cmpR op_ne (pe_callB call_len (by rfl) T.len PySem.boot_len (pa_cons (pv 1) pa_nil)) pe_int (nomark _)) (pw_or1 (pt_cmpR op_ge (pe_callB call_len_dT (by rfl) T.len PySem.boot_len (pa_cons (pe_fld (pv 0) rfl) pa_nil)) (pe_glob (v := .int 40) rfl hMR ⟨_, rfl⟩) (nomark _))))) (pss_one (ps_ret pe_bl)) pss_nil)
        (pss_cons (ps_asg (pv 1) (pg_unl rfl (pgs_cons (pg_name (i := 2) scTake_route.nd rfl (Or.inl rfl)) (pgs_cons (pg_name (i := 3) scTake_route.nd rfl (Or.inl rfl)) (pgs_cons (pg_name (i := 4) scTake_route.nd rfl (Or.inl rfl)) pgs_nil)))))
        (pss_cons (ps_if (PW.pt (pw_or (pt_cmp (pc_dnotin hu (pv 3) (pe_fld (pv 0) rfl))) (pw_or (pt_cmp (pc_dnotin hu (pv 4) (pe_fld (pv 0) rfl))) (pw_or1 (pt_cmp (pc_din hu (pe_tup (pa_cons (pv 3) (pa_cons (pv 4) pa_nil))) (pe_fld (pv 0) rfl))))))) (pss_one (ps_ret pe_bl)) pss_nil)
        (pss_cons (ps_dput hu (pe_fld (pv 0) rfl) (pe_tup (pa_cons (pv 3) (pa_cons (pv 4) pa_nil))) pe_bl rfl)
        (pss_one (ps_ret pe_bl)))))), ?_⟩
    obtain ⟨⟨dx, q0⟩, q1, q2, q3, q4, n12, n34⟩ := id hp
    refine ⟨_, rfl, _, 3, rfl, .inl ⟨_, SqL.of hl, rfl⟩, rfl, _, rfl, ifN rfl ?_⟩
    refine ⟨_, rfl, p.x, _, dx, _, _, rfl, q0, Z.cl, Z.n4, pf4, p.a4, _, rfl, q4, _, _, rfl, rfl, _, rfl, ifF (by unfold rouD; rw [List.length_map]; omega) ?_⟩
    refine ⟨_, rfl, l, _, rfl, SqL.of hl, rfl, _, _, rfl, _, _, rfl, _, _, rfl, rfl, ?_⟩
    have d1 := DGet.k (k := Sum.inr z.1) q2
    have s1 : (valV (homD st.hs) (Sum.inr z.1)).isSome = true := kd_some hs
    refine ⟨_, rfl, _, rfl, p.x, _, dx, _, _, rfl, q0, Z.cl, Z.n2, pf2, p.a2, _, rfl, d1, _, rfl, ifN (by rw [s1]; rfl) ?_⟩
    have d2 := DGet.k (k := Sum.inr z.2) q2
    have s2 : (valV (homD st.hs) (Sum.inr z.2)).isSome = true := kd_some hg
    refine ⟨_, rfl, _, rfl, p.x, _, dx, _, _, rfl, q0, Z.cl, Z.n2, pf2, p.a2, _, rfl, d2, _, rfl, ifN (by rw [s2]; rfl) ?_⟩
    refine ⟨_, rfl, _, rfl, (by show 2 ≤ sizeLine; decide), fun t ht => ?_⟩
    have sT := same_upd (o := .tup [.str z.1, .str z.2]) ht
    have tq : (upd H t (.tup [.str z.1, .str z.2])) t = some (.tup ([Sum.inr z.1, Sum.inr z.2].map kV)) := upd_same
    have hp1 := hp.same sT
    generalize upd H t (.tup [.str z.1, .str z.2]) = H1 at sT tq hp1 ⊢
    obtain ⟨⟨dy, q0'⟩, q1', q2', q3', q4', _, _⟩ := id hp1
    have vn : valV (rouD st.os) [Sum.inr z.1, Sum.inr z.2] = none := by
      have := td_none (g := fun _ : Unit => V.bl true) (zs := st.os.map fun r => (r, ())) (k := z) (by rw [List.map_map]; simpa [Function.comp_def] using hz)
      rw [List.map_map] at this
      exact this
    have dg := DGet.t q4' tq
    rw [vn] at dg
    refine ⟨_, rfl, p.x, _, dy, _, _, rfl, q0', Z.cl, Z.n4, pf4, p.a4, none, rfl, dg, _, rfl, ifN rfl ?_⟩
    refine ⟨_, rfl, p.x, _, dy, _, _, rfl, q0', Z.cl, Z.n4, pf4, _, rfl, _, rfl, (by show 2 ≤ sizeLine; decide), fun u hu2 => ?_⟩
    have sU := same_upd (o := .tup [.str z.1, .str z.2]) hu2
    have uq : (upd H1 u (.tup [.str z.1, .str z.2])) u = some (.tup ([Sum.inr z.1, Sum.inr z.2].map kV)) := upd_same
    have hp2 := hp1.same sU
    generalize upd H1 u (.tup [.str z.1, .str z.2]) = H2 at sU uq hp2 ⊢
    obtain ⟨⟨dw, w0⟩, w1, w2, w3, w4, _, _⟩ := id hp2
    have ll : (rouD st.os).length < sizeLine := by unfold rouD; rw [List.length_map, sizeLine_eq]; omega
    have dp := DPut.t (v := .bl true) w4 uq ll
    rw [putK_new _ vn] at dp
    refine ⟨p.a4, _, rfl, dp, ?_⟩
    refine k _ ⟨⟨dw, ?_⟩, ?_, ?_, ?_, ?_, n12, n34⟩ ((ButP.same (sT.trans sU)).trans fun c o e _ _ _ m4 => by rw [upd_ne m4]; exact e)
    · rw [upd_ne (fun e => by rw [e, w4] at w0; cases w0)]
      exact w0
    · rw [upd_ne (fun e => by rw [e, w4] at w1; cases w1)]
      exact w1
    · rw [upd_ne (fun e => by rw [e, w4] at w2; cases w2)]
      exact w2
    · rw [upd_ne n34]
      exact w3
    · rw [upd_same]
      unfold rouD
      rw [List.map_append]
      rfl
end
end Wd
end
section
set_option Elab.async false
set_option linter.all false
set_option maxRecDepth 100000
set_option maxHeartbeats 1000000
namespace Wd
open PySem PySem.Spec PyProof.Rows L2 Wt TL NumText
/-- a method of a class, as the text keeps it -/
structure Md (P : Program) (w : World) (K : PySem.W.Frag) (mg : Str → Option Value) (base : Heap) (C : Addr) (CX : CXT) (k : Nat) (m : Str) (ps : List Str) (sp : Sp) : Prop where
  ex : ∃ f fd, Meth K C m f ∧ FnOk P w K mg base CX k f fd ps sp ∧ Binds K fd ps []
section
variable {X : Cx} {CX : CXT} {k : Nat} {m : Str} {C : Addr} {ps : List Str} {sp : Sp} {E : XK} {o e : Expr} {es : List Expr} {ta : TE} {t : TA} {apos pos : Pos}
theorem pe_md {pl : Sem Bool} (M : Md X.prog X.w X.K X.mg X.base C CX k m ps sp) (he : PE X o ta) (c : Cls X.K C) (hr : Room k X.A) (hx : Passes CX X E) (ha : PA X (e :: es) t)
    (hst : starEach (e :: es) X.env = (false, eval e X.env) :: starEach es X.env := by rfl) (hpl : (backTo pos (starEach es X.env)).any (·.1) = false := by rfl)
    (ht : eval (.Call (.Attribute o m apos) (e :: es) [] pos) X.env = (do
      let ov ← eval o X.env
      standAt apos.atName
      let (f, first) ← holding [ov] (getMethod ov m pl)
      callWith pos f first (backTo pos (starEach (e :: es) X.env)) (backToKw pos (keywordEach [] X.env))) := by rfl) :
    PE X (.Call (.Attribute o m apos) (e :: es) [] pos) (tMeth C m sp [] E ta t) := by
  obtain ⟨f, fd, hm, G, hb⟩ := M.ex
  exact pe_meth (pl := pl) he c hm G hr hb .nil hx ha hst hpl ht
end
theorem starts_app (y b : Str) : Txt.startswith (y ++ b) y = true := by
  unfold Txt.startswith
  rw [Bool.and_eq_true, PySem.StrLaws.subAt_eq]
  have e : (y ++ b).cps.toList = y.cps.toList ++ b.cps.toList := tl_append y b
  refine ⟨decide_eq_true (by rw [len_app]; omega), ?_⟩
  rw [List.drop_zero, e, beq_iff_eq]
  exact List.take_left' rfl
theorem cut2 {a : Str} : cutS ("  " ++ a) (some 2) none = a := by
  refine ext_tl ?_
  have e : (2 : Int) = ((2 : Nat) : Int) := rfl
  have e2 : tl ("  " : Str) = [32, 32] := by decide +kernel
  rw [e, cut_from (by rw [tl_append, e2]; simp), tl_append, e2]
  rfl
theorem rule_part {k r : Str} (hk : k ∈ KS) : Txt.partition (k ++ " -> " ++ r) " -> " = (k, (" -> " : Str), r) :=
  partition_app (y := (" -> " : Str)) (s := 32) (S := [45, 62, 32]) (by decide +kernel) (ks_free hk)
theorem app_assoc (a b c : Str) : a ++ b ++ c = a ++ (b ++ c) := ext_tl (by rw [tl_append, tl_append, tl_append, tl_append, List.append_assoc])
theorem name_free {z : Str} (h : nameL (tl z)) : 32 ∉ tl z := fun m => by
  have := h.2.2 32 m
  omega
theorem zone_words {z : Str × Int} (h : nameL (tl z.1)) : words (zoneL z) = (["zone", z.1, strI z.2] : List Str) := by
  have e1 : zoneL z = Txt.join " " (["zone", z.1, strI z.2] : List Str) := by
    refine ext_tl ?_
    have e : tl ("zone " : Str) = tl ("zone" : Str) ++ [32] := by decide +kernel
    rw [join_eq, tl_join, Wt.blank]
    simp [zoneL, tl_append, Wt.blank, joinL, e]
  have e2 : 32 ∉ tl ("zone" : Str) := by decide +kernel
  rw [e1]
  refine words_of (List.cons_ne_nil _ _) fun p hp => ?_
  simp only [List.mem_cons, List.not_mem_nil, or_false] at hp
  rcases hp with rfl | rfl | rfl
  · exact e2
  · exact name_free h
  · exact free_str _
theorem prog_words {a b : Str} (h : nameL (tl a)) (h' : nameL (tl b)) : words ("program " ++ a ++ " at " ++ b) = (["program", a, "at", b] : List Str) := by
  have e1 : "program " ++ a ++ " at " ++ b = Txt.join " " (["program", a, "at", b] : List Str) := by
    refine ext_tl ?_
    have e : tl ("program " : Str) = tl ("program" : Str) ++ [32] := by decide +kernel
    have e' : tl (" at " : Str) = [32] ++ (tl ("at" : Str) ++ [32]) := by decide +kernel
    rw [join_eq, tl_join, Wt.blank]
    simp [tl_append, Wt.blank, joinL, e, e']
  have e2 : 32 ∉ tl ("program" : Str) := by decide +kernel
  have e3 : 32 ∉ tl ("at" : Str) := by decide +kernel
  rw [e1]
  refine words_of (List.cons_ne_nil _ _) fun p hp => ?_
  simp only [List.mem_cons, List.not_mem_nil, or_false] at hp
  rcases hp with rfl | rfl | rfl | rfl
  · exact e2
  · exact name_free h
  · exact e3
  · exact name_free h'
theorem route_words {z : Str × Str} (h : nameL (tl z.1)) (h' : nameL (tl z.2)) : words (routeL z) = (["route", z.1, z.2] : List Str) := by
  have e1 : routeL z = Txt.join " " (["route", z.1, z.2] : List Str) := by
    refine ext_tl ?_
    have e : tl ("route " : Str) = tl ("route" : Str) ++ [32] := by decide +kernel
    rw [join_eq, tl_join, Wt.blank]
    simp [routeL, tl_append, Wt.blank, joinL, e]
  have e2 : 32 ∉ tl ("route" : Str) := by decide +kernel
  rw [e1]
  refine words_of (List.cons_ne_nil _ _) fun p hp => ?_
  simp only [List.mem_cons, List.not_mem_nil, or_false] at hp
  rcases hp with rfl | rfl | rfl
  · exact e2
  · exact name_free h
  · exact name_free h'
theorem rule_words (k r : Str) : ∃ ws, words (ruleL k r) = Str.empty :: ws := by
  have e2 : tl ("  " : Str) = [32, 32] := by decide +kernel
  have h := Wt.words_tl (ruleL k r)
  have e : tl (ruleL k r) = [] ++ ([32] ++ (32 :: (tl k ++ (tl (" -> " : Str) ++ tl r)))) := by
    simp [ruleL, tl_append, e2]
  rw [e, spl_part1 (s := 32) (S := []) (by simp)] at h
  cases hw : words (ruleL k r) with
  | nil => exact absurd hw (words_ne _)
  | cons a ws =>
    rw [hw, List.map_cons] at h
    have := (List.cons.inj h).1
    exact ⟨ws, by rw [show a = Str.empty from ext_tl (by rw [this]; rfl)]⟩
/-- a line that may stand next, and what is read behind it -/
inductive StepL : PSt → Str → PSt → Prop
  | zone {s : PSt} (z : Str × Int) : s.hs = [] → s.zs.length < 6 → nameL (tl z.1) → z.1 ∉ s.zs.map Prod.fst → -840 ≤ z.2 → z.2 ≤ 840 → StepL s (zoneL z) { s with zs := s.zs ++ [z] }
  | prog {s : PSt} (z : Str × Str) : s.os = [] → s.hs.length < 12 → nameL (tl z.1) → nameL (tl z.2) → z.1 ∉ s.hs.map Prod.fst → z.2 ∈ s.zs.map Prod.fst → StepL s ("program " ++ z.1 ++ " at " ++ z.2) { s with hs := s.hs ++ [z] }
  | rule {s : PSt} (pre : List (Str × Str)) (p h k r : Str) : s.hs = pre ++ [(p, h)] → s.os = [] → k ∈ KS → RuleD k r → r ≠ "keep" → (p, k) ∉ s.rs.map Prod.fst → s.rs.length ≤ 500 → StepL s (ruleL k r) { s with rs := s.rs ++ [((p, k), r)] }
  | route {s : PSt} (z : Str × Str) : s.os.length < 40 → nameL (tl z.1) → nameL (tl z.2) → z.1 ∈ s.hs.map Prod.fst → z.2 ∈ s.hs.map Prod.fst → z ∉ s.os → StepL s (routeL z) { s with os := s.os ++ [z] }
def spTRule (C : Addr) : Sp := fun vs H Q _ => ∃ (a : PA4) (s : PSt) (pre : List (Str × Str)) (p h k r : Str), vs = [.ref a.x, .str (ruleL k r)] ∧ PartsAt C a H s ∧ s.hs = pre ++ [(p, h)] ∧ s.hs.length ≤ 12 ∧ s.os = [] ∧ k ∈ KS ∧ RuleD k r ∧ r ≠ "keep" ∧
  (p, k) ∉ s.rs.map Prod.fst ∧ s.rs.length ≤ 500 ∧ ∀ H', PartsAt C a H' { s with rs := s.rs ++ [((p, k), r)] } → ButP a H H' → Q (.bl true) H'
def spTake (C : Addr) : Sp := fun vs H Q _ => ∃ (a : PA4) (s s' : PSt) (z : Str), vs = [.ref a.x, .str z] ∧ PartsAt C a H s ∧ s.hs.length ≤ 12 ∧ StepL s z s' ∧ z.length ≤ 200 ∧ ∀ H', PartsAt C a H' s' → ButP a H H' → Q (.bl true) H'
section
variable {P : Program} {w : World} {K : PySem.W.Frag} {mg : Str → Option Value} {base : Heap} {f : Addr} {fd : FuncData}
structure DTRule (P : Program) (w : World) (K : PySem.W.Frag) (mg : Str → Option Value) (base : Heap) : Prop where
  is_kind : Df P w K mg base CX0 1 "is_kind" ["value"] spIsk
  is_rule : Df P w K mg base CX0 3 "is_rule" ["kind", "rule"] spIsRule
theorem scTake_rule : FnScope ["self", "line", "kind", "_", "rule", "key"] ["self", "line"] (defScope (inClass (top i_Parts) j_Parts_take_rule)) := ⟨rfl, rfl, rfl, by decide +kernel, rfl, by decide +kernel, by decide +kernel⟩
theorem ok_tRule (F : FunD K "take_rule" "Parts.take_rule" (defArgs (inClass (top i_Parts) j_Parts_take_rule)) (defBody (inClass (top i_Parts) j_Parts_take_rule)) (defScope (inClass (top i_Parts) j_Parts_take_rule)) [] [] f fd) (T : Tx K mg) (Z : Tp K mg) (D : DTRule P w K mg base) :
    FnOk P w K mg base CX0 4 f fd ["self", "line"] (spTRule (He.ga K "Parts")) := by
  refine F.ok scTake_rule (fun vs H Q E h => ?_) (fun cdv A outer s H vs Q E hr h => ?_)
  · obtain ⟨a, st, pre, p, h, k, r, rfl, _⟩ := h
    rfl
  · obtain ⟨a, st, pre, p, h, kd, r, rfl, hp, hh, h12, ho, hk, hrd, hn, hnk, h500, k⟩ := h
    have hu := hu_of hr
    refine ⟨_, PSs.nox (pss_cons (ps_if (PW.pt (pw_or (pt_not (pt_val (pe_m1 PySem.F.slot_str_startswith PySem.F.type_str_startswith mt_startswith (pv 1) pe_str))) (pw_or (pt_not (pt_truth (pe_fld (pv 0) rfl) (fun _ => rfl))) (pw_or1 (pt_truthR (pe_fld (pv 0) rfl) tru_dT (fun _ => rfl)))))) (pss_one (ps_ret pe_bl)) pss_nil)
        (pss_cons (ps_asg (pe_m1 PySem.F.slot_str_partition PySem.F.type_str_partition mt_partition (pe_slice sl_str (pv 1) (po_some pe_int) po_none) pe_str) (pg_tup rfl (pgs_cons (pg_name (i := 2) scTake_rule.nd rfl (Or.inl rfl)) (pgs_cons (pg_name (i := 3) scTake_rule.nd rfl (Or.inl rfl)) (pgs_cons (pg_name (i := 4) scTake_rule.nd rfl (Or.inl rfl)) pgs_nil)))))
        (pss_cons (ps_if (PW.pt (pw_or (pt_not (pt_val (pe_cd D.is_kind (hr.mono (by decide)) pass0 (pa_cons (pv 2) pa_nil)))) (pw_or1 (pt_not (pt_val (pe_cd D.is_rule (hr.mono (by decide)) pass0 (pa_cons (pv 2) (pa_cons (pv 4) pa_nil)))))))) (pss_one (ps_ret pe_bl)) pss_nil)
        (pss_cons (ps_set (i := 5) scTake_rule.nd rfl (Or.inl rfl) (pe_tup (pa_cons (pe_ix ix_list (pe_callTy (call_list_dK rfl) (by rfl) T.list (by decide +kernel) (pa_cons (pe_fld (pv 0) rfl) pa_nil)) (pe_un un_neg pe_int) (fun _ _ => rfl)) (pa_cons (pv 2) pa_nil))))
        (pss_cons (ps_if (pt_cmp (pc_din hu (pv 5) (pe_fld (pv 0) rfl))) (pss_one (ps_ret pe_bl)) pss_nil)
        (pss_cons (ps_dput hu (pe_fld (pv 0) rfl) (pv 5) (pv 4) rfl)
        (pss_one (ps_ret pe_bl)))))))), ?_⟩
    obtain ⟨⟨dx, q0⟩, q1, q2, q3, q4, n12, n34⟩ := id hp
    rw [ho] at q4
    have lz := ruleD_len hrd
    have lk := ks_len hk
    have g5 : ("  " : Str).length = 2 := by decide +kernel
    have g6 : (" -> " : Str).length = 4 := by decide +kernel
    have el : ruleL kd r = "  " ++ (kd ++ " -> " ++ r) := by
      unfold ruleL
      rw [app_assoc, app_assoc, app_assoc]
    have ll : (ruleL kd r).length ≤ 200 := by
      unfold ruleL
      simp only [len_app]
      omega
    have hne : (!(homD st.hs).isEmpty) = true := by
      rw [hh]
      unfold homD
      rw [List.map_append]
      cases pre <;> rfl
    refine ⟨_, rfl, ⟨_, rfl⟩, _, _, rfl, rfl, _, rfl, ifN ?_ ?_⟩
    · show (!Txt.startswith (ruleL kd r) "  ") = false
      rw [el, starts_app]
      rfl
    refine ⟨_, rfl, a.x, _, dx, _, _, rfl, q0, Z.cl, Z.n2, pf2, _, .inr (.inr ⟨_, q2, rfl⟩), ifN (by rw [hne]; rfl) ?_⟩
    refine ⟨_, rfl, a.x, _, dx, _, _, rfl, q0, Z.cl, Z.n4, pf4, a.a4, _, rfl, q4, ifN rfl ?_⟩
    have e2 : cutS (ruleL kd r) (some 2) none = kd ++ " -> " ++ r := by rw [el, cut2]
    refine ⟨_, rfl, 2, rfl, _, rfl, fitL (by omega), ?_⟩
    rw [e2]
    refine ⟨⟨_, rfl⟩, _, _, rfl, rfl, (by decide +kernel), fitL (by simp only [len_app]; omega), fun t ht => ?_⟩
    rw [rule_part hk]
    have sT := same_upd (o := .tup [.str kd, .str " -> ", .str r]) ht
    have tq : (upd H t (.tup [.str kd, .str " -> ", .str r])) t = some (.tup [.str kd, .str " -> ", .str r]) := upd_same
    have hp1 := hp.same sT
    generalize upd H t (.tup [.str kd, .str " -> ", .str r]) = H1 at sT tq hp1 ⊢
    refine ⟨t, _, rfl, SqT.of tq, rfl, _, _, rfl, _, _, rfl, _, _, rfl, rfl, ?_⟩
    refine ⟨_, rfl, kd, rfl, fun b hb => ⟨b, rfl, ?_⟩⟩
    rw [hb.mpr hk]
    refine ifN rfl ?_
    refine ⟨_, rfl, _, rfl, kd, r, rfl, hk, hrd, hn, fun H2 s2 => ⟨_, rfl, ifN rfl ?_⟩⟩
    have hp2 := hp1.same s2
    obtain ⟨⟨dy, w0⟩, w1, w2, w3, w4, _, _⟩ := id hp2
    refine ⟨_, rfl, a.x, _, dy, _, _, rfl, w0, Z.cl, Z.n2, pf2, a.a2, _, rfl, w2, fun lq hlq => ?_⟩
    have sL := same_upd (o := .lst ((homD st.hs).map fun kv => kV kv.1)) hlq
    have lqq : (upd H2 lq (.lst ((homD st.hs).map fun kv => kV kv.1))) lq = some (.lst ((homD pre).map (fun kv => kV kv.1) ++ [.str p])) := by
      rw [upd_same, hh]
      unfold homD
      rw [List.map_append, List.map_append]
      rfl
    have hp3 := hp2.same sL
    generalize upd H2 lq (.lst ((homD st.hs).map fun kv => kV kv.1)) = H3 at sL lqq hp3 ⊢
    refine ⟨1, rfl, lq, _, _, .str p, rfl, rfl, SqL.of lqq, atI_last _ _, _, rfl, (by show 2 ≤ sizeLine; decide), fun tk htk => ?_⟩
    have sK := same_upd (o := .tup [.str p, .str kd]) htk
    have kq : (upd H3 tk (.tup [.str p, .str kd])) tk = some (.tup ([Sum.inr p, Sum.inr kd].map kV)) := upd_same
    have hp4 := hp3.same sK
    generalize upd H3 tk (.tup [.str p, .str kd]) = H4 at sK kq hp4 ⊢
    obtain ⟨⟨dw, v0⟩, v1, v2, v3, v4, _, _⟩ := id hp4
    have vn : valV (rulD st.rs) [Sum.inr p, Sum.inr kd] = none := td_none (g := V.str) (zs := st.rs) (k := (p, kd)) hnk
    have dg := DGet.t v3 kq
    rw [vn] at dg
    refine ⟨_, rfl, _, rfl, a.x, _, dw, _, _, rfl, v0, Z.cl, Z.n3, pf3, a.a3, none, rfl, dg, _, rfl, ifN rfl ?_⟩
    have lr : (rulD st.rs).length < sizeLine := by unfold rulD; rw [List.length_map, sizeLine_eq]; omega
    have dp := DPut.t (v := .str r) v3 kq lr
    rw [putK_new _ vn] at dp
    refine ⟨_, rfl, _, rfl, a.x, _, dw, _, _, rfl, v0, Z.cl, Z.n3, pf3, _, rfl, a.a3, _, rfl, dp, ?_⟩
    refine k _ ⟨⟨dw, ?_⟩, ?_, ?_, ?_, ?_, n12, n34⟩ ((ButP.same (((sT.trans s2).trans sL).trans sK)).trans fun c o e _ _ m3 _ => by rw [upd_ne m3]; exact e)
    · rw [upd_ne (fun e => by rw [e, v3] at v0; cases v0)]
      exact v0
    · rw [upd_ne (fun e => by rw [e, v3] at v1; cases v1)]
      exact v1
    · rw [upd_ne (fun e => by rw [e, v3] at v2; cases v2)]
      exact v2
    · rw [upd_same]
      unfold rulD
      rw [List.map_append]
      rfl
    · rw [upd_ne n34.symm]
      exact v4
structure MTake (P : Program) (w : World) (K : PySem.W.Frag) (mg : Str → Option Value) (base : Heap) : Prop where
  take_zone : Md P w K mg base (He.ga K "Parts") CX0 3 "take_zone" ["self", "words"] (spTZone (He.ga K "Parts"))
  take_program : Md P w K mg base (He.ga K "Parts") CX0 3 "take_program" ["self", "words"] (spTProg (He.ga K "Parts"))
  take_route : Md P w K mg base (He.ga K "Parts") CX0 2 "take_route" ["self", "words"] (spTRoute (He.ga K "Parts"))
  take_rule : Md P w K mg base (He.ga K "Parts") CX0 4 "take_rule" ["self", "line"] (spTRule (He.ga K "Parts"))
theorem scTake : FnScope ["self", "line", "words"] ["self", "line"] (defScope (inClass (top i_Parts) j_Parts_take)) := ⟨rfl, rfl, rfl, by decide +kernel, rfl, by decide +kernel, by decide +kernel⟩
theorem ok_take (F : FunD K "take" "Parts.take" (defArgs (inClass (top i_Parts) j_Parts_take)) (defBody (inClass (top i_Parts) j_Parts_take)) (defScope (inClass (top i_Parts) j_Parts_take)) [] [] f fd) (T : Tx K mg) (Z : Tp K mg) (M : MTake P w K mg base) :
    FnOk P w K mg base CX0 6 f fd ["self", "line"] (spTake (He.ga K "Parts")) := by
  refine F.ok scTake (fun vs H Q E h => ?_) (fun cdv A outer s H vs Q E hr h => ?_)
  · obtain ⟨a, s, s', z, rfl, _⟩ := h
    rfl
  · obtain ⟨a, st, st', z, rfl, hp, h12, hs, lz, k⟩ := h
    refine ⟨_, PSs.nox (pss_cons (ps_set (i := 2) scTake.nd rfl (Or.inl rfl) (pe_split (pv 1) pe_str))
        (pss_cons (ps_if (pt_cmpR op_eq (pe_ix ix_list (pv 2) pe_int (fun _ _ => rfl)) pe_str (nomark _)) (pss_one (ps_ret (pe_md M.take_zone (pv 0) Z.cl (hr.mono (by decide)) pass0 (pa_cons (pv 2) pa_nil)))) pss_nil)
        (pss_cons (ps_if (pt_cmpR op_eq (pe_ix ix_list (pv 2) pe_int (fun _ _ => rfl)) pe_str (nomark _)) (pss_one (ps_ret (pe_md M.take_program (pv 0) Z.cl (hr.mono (by decide)) pass0 (pa_cons (pv 2) pa_nil)))) pss_nil)
        (pss_cons (ps_if (pt_cmpR op_eq (pe_ix ix_list (pv 2) pe_int (fun _ _ => rfl)) pe_str (nomark _)) (pss_one (ps_ret (pe_md M.take_route (pv 0) Z.cl (hr.mono (by decide)) pass0 (pa_cons (pv 2) pa_nil)))) pss_nil)
        (pss_one (ps_ret (pe_md M.take_rule (pv 0) Z.cl (hr.mono (by decide)) pass0 (pa_cons (pv 1) pa_nil)))))))), ?_⟩
    obtain ⟨⟨dx, q0⟩, q1, q2, q3, q4, n12, n34⟩ := id hp
    refine ⟨_, rfl, ⟨_, rfl⟩, _, _, rfl, rfl, (by decide +kernel), fitL (by omega), fun l hl => ?_⟩
    have sl := same_upd (o := .lst ((Txt.split z " ").map V.str)) hl
    have lq : (upd H l (.lst ((Txt.split z " ").map V.str))) l = some (.lst ((words z).map V.str)) := upd_same
    have hp1 := hp.same sl
    generalize upd H l (.lst ((Txt.split z " ").map V.str)) = H1 at sl lq hp1 ⊢
    obtain ⟨dy, w0⟩ := hp1.at_
    have m1 : (pFs a.a1 a.a2 a.a3 a.a4).lookup ("take_zone" : Str) = none := by
      unfold pFs
      rw [lookup_putF, if_neg (by decide +kernel), lookup_putF, if_neg (by decide +kernel), lookup_putF, if_neg (by decide +kernel), lookup_putF, if_neg (by decide +kernel)]
      rfl
    have m2 : (pFs a.a1 a.a2 a.a3 a.a4).lookup ("take_program" : Str) = none := by
      unfold pFs
      rw [lookup_putF, if_neg (by decide +kernel), lookup_putF, if_neg (by decide +kernel), lookup_putF, if_neg (by decide +kernel), lookup_putF, if_neg (by decide +kernel)]
      rfl
    have m3 : (pFs a.a1 a.a2 a.a3 a.a4).lookup ("take_route" : Str) = none := by
      unfold pFs
      rw [lookup_putF, if_neg (by decide +kernel), lookup_putF, if_neg (by decide +kernel), lookup_putF, if_neg (by decide +kernel), lookup_putF, if_neg (by decide +kernel)]
      rfl
    have m4 : (pFs a.a1 a.a2 a.a3 a.a4).lookup ("take_rule" : Str) = none := by
      unfold pFs
      rw [lookup_putF, if_neg (by decide +kernel), lookup_putF, if_neg (by decide +kernel), lookup_putF, if_neg (by decide +kernel), lookup_putF, if_neg (by decide +kernel)]
      rfl
    have n1 : ¬ (V.str ("program" : Str) = V.str ("zone" : Str)) := by decide +kernel
    have n2 : ¬ (V.str ("route" : Str) = V.str ("zone" : Str)) := by decide +kernel
    have n3 : ¬ (V.str ("route" : Str) = V.str ("program" : Str)) := by decide +kernel
    have n4 : ¬ (V.str Str.empty = V.str ("zone" : Str)) := by decide +kernel
    have n5 : ¬ (V.str Str.empty = V.str ("program" : Str)) := by decide +kernel
    have n6 : ¬ (V.str Str.empty = V.str ("route" : Str)) := by decide +kernel
    cases hs with
    | zone y a1 a2 a3 a4 a5 a6 =>
      rw [zone_words a3] at lq
      refine ⟨_, rfl, l, _, _, _, rfl, rfl, SqL.of lq, atI_nat (j := 0) rfl, rfl, _, rfl, ifT rfl ?_⟩
      exact ⟨_, rfl, a.x, dy, _, rfl, w0, m1, _, rfl, a, l, st, y, rfl, hp1, lq, a1, a2, a3, a4, a5, a6, fun H' u b => k H' u ((ButP.same sl).trans b)⟩
    | prog y a1 a2 a3 a4 a5 a6 =>
      rw [prog_words a3 a4] at lq
      refine ⟨_, rfl, l, _, _, _, rfl, rfl, SqL.of lq, atI_nat (j := 0) rfl, rfl, _, rfl, ifF n1 ?_⟩
      refine ⟨_, rfl, l, _, _, _, rfl, rfl, SqL.of lq, atI_nat (j := 0) rfl, rfl, _, rfl, ifT rfl ?_⟩
      exact ⟨_, rfl, a.x, dy, _, rfl, w0, m2, _, rfl, a, l, st, y, rfl, hp1, lq, a1, a2, a3, a5, a6, fun H' u b => k H' u ((ButP.same sl).trans b)⟩
    | route y a1 a2 a3 a4 a5 a6 =>
      rw [route_words a2 a3] at lq
      refine ⟨_, rfl, l, _, _, _, rfl, rfl, SqL.of lq, atI_nat (j := 0) rfl, rfl, _, rfl, ifF n2 ?_⟩
      refine ⟨_, rfl, l, _, _, _, rfl, rfl, SqL.of lq, atI_nat (j := 0) rfl, rfl, _, rfl, ifF n3 ?_⟩
      refine ⟨_, rfl, l, _, _, _, rfl, rfl, SqL.of lq, atI_nat (j := 0) rfl, rfl, _, rfl, ifT rfl ?_⟩
      exact ⟨_, rfl, a.x, dy, _, rfl, w0, m3, _, rfl, a, l, st, y, rfl, hp1, lq, a1, a4, a5, a6, fun H' u b => k H' u ((ButP.same sl).trans b)⟩
    | rule pre p h kd r a1 a2 a3 a4 a5 a6 a7 =>
      obtain ⟨ws, ew⟩ := rule_words kd r
      rw [ew] at lq
      refine ⟨_, rfl, l, _, _, _, rfl, rfl, SqL.of lq, atI_nat (j := 0) rfl, rfl, _, rfl, ifF n4 ?_⟩
      refine ⟨_, rfl, l, _, _, _, rfl, rfl, SqL.of lq, atI_nat (j := 0) rfl, rfl, _, rfl, ifF n5 ?_⟩
      refine ⟨_, rfl, l, _, _, _, rfl, rfl, SqL.of lq, atI_nat (j := 0) rfl, rfl, _, rfl, ifF n6 ?_⟩
      exact ⟨_, rfl, a.x, dy, _, rfl, w0, m4, _, rfl, a, st, pre, p, h, kd, r, rfl, hp1, a1, h12, a2, a3, a4, a5, a6, a7, fun H' u b => k H' u ((ButP.same sl).trans b)⟩
end
end Wd
end
section
set_option Elab.async false
set_option linter.all false
set_option maxRecDepth 100000
set_option maxHeartbeats 1000000
namespace Wd
open PySem PySem.Spec PyProof.Rows L2 Wt TL NumText
theorem walk_enum1 {K : PySem.W.Frag} {a : Addr} {xs : List V} : Walk (Ite1 K a) xs.length (fun H => SqL K H a xs) (YPair (fun i => some (.int (1 + (i : Int)))) (fun i => xs[i]?)) := by
  refine ⟨fun i _ hi q => ⟨xs, xs[i], q, by simp [hi]⟩, fun _ q => ⟨xs, q, Nat.le_refl _⟩, fun i H v H' _ q y => ?_⟩
  obtain ⟨T, x, h1, h2, h3, h4⟩ := y
  exact ⟨T, .int (1 + (i : Int)), x, h1, h2, h3, rfl, h4 xs q⟩
/-- lines that may stand one behind the other -/
inductive StepsL : PSt → List Str → PSt → Prop
  | nil {s : PSt} : StepsL s [] s
  | cons {s s1 s2 : PSt} {z : Str} {zs : List Str} : StepL s z s1 → StepsL s1 zs s2 → StepsL s (z :: zs) s2
theorem StepL.h12 {s s' : PSt} {z : Str} (h : StepL s z s') (l : s.hs.length ≤ 12) : s'.hs.length ≤ 12 := by
  cases h with
  | zone => exact l
  | prog y a1 a2 => simp only [List.length_append, List.length_cons, List.length_nil]; omega
  | rule => exact l
  | route => exact l
def ps0 : PSt := ⟨[], [], [], []⟩
def spPInit (C : Addr) : Sp := fun vs H Q _ => ∃ (x dx : Addr), vs = [.ref x] ∧ H x = some (.ins C dx []) ∧
  ∀ (p : PA4) H', p.x = x → (∀ c o, H c = some o → c ≠ x → H' c = some o) → H p.a1 = none → H p.a2 = none → H p.a3 = none → H p.a4 = none → PartsAt C p H' ps0 → Q .non H'
def spRead (C : Addr) : Sp := fun vs H Q _ => ∃ (ls : List Str) (fin : PSt), vs = [.str (Txt.join "\n" ls)] ∧ ls ≠ [] ∧ ls.length ≤ 1000 ∧ (∀ z ∈ ls, 10 ∉ tl z ∧ z.length ≤ 200) ∧ (Txt.join "\n" ls).length ≤ 1000000 ∧ Txt.join "\n" ls ≠ "" ∧ StepsL ps0 ls fin ∧
  ∀ (p : PA4) H', Same H H' → H p.x = none → H p.a1 = none → H p.a2 = none → H p.a3 = none → H p.a4 = none → PartsAt C p H' fin → Q (.ref p.x) H'
section
variable {P : Program} {w : World} {K : PySem.W.Frag} {mg : Str → Option Value} {base : Heap} {f : Addr} {fd : FuncData}
theorem scPInit : FnScope ["self"] ["self"] (defScope (inClass (top i_Parts) j_Parts___init__)) := ⟨rfl, rfl, rfl, by decide +kernel, rfl, by decide +kernel, by decide +kernel⟩
theorem ok_pInit (F : FunD K "__init__" "Parts.__init__" (defArgs (inClass (top i_Parts) j_Parts___init__)) (defBody (inClass (top i_Parts) j_Parts___init__)) (defScope (inClass (top i_Parts) j_Parts___init__)) [] [] f fd) (Z : Tp K mg) :
    FnOk P w K mg base CX0 1 f fd ["self"] (spPInit (He.ga K "Parts")) := by
  refine F.ok scPInit (fun vs H Q E h => ?_) (fun cdv A outer s H vs Q E hr h => ?_)
  · obtain ⟨x, dx, rfl, _⟩ := h
    rfl
  · obtain ⟨x, dx, rfl, q0, k⟩ := h
    refine ⟨_, PSs.nox (pss_cons (ps_fld (pv 0) pe_dnewK rfl)
        (pss_cons (ps_fld (pv 0) pe_dnewK rfl)
        (pss_cons (ps_fld (pv 0) pe_dnewT rfl)
        (pss_one (ps_fld (pv 0) pe_dnewT rfl))))), ?_⟩
    have step : ∀ (H1 : Hp) (a : Addr) (o : HO) (fs fs' : List (Str × V)), H1 x = some (.ins (He.ga K "Parts") dx fs) → H1 a = none → a ≠ x ∧ (upd (upd H1 a o) x (.ins (He.ga K "Parts") dx fs')) x = some (.ins (He.ga K "Parts") dx fs') ∧
        (upd (upd H1 a o) x (.ins (He.ga K "Parts") dx fs')) a = some o ∧ (upd H1 a o) x = some (.ins (He.ga K "Parts") dx fs) ∧ ∀ c u, H1 c = some u → c ≠ x → (upd (upd H1 a o) x (.ins (He.ga K "Parts") dx fs')) c = some u := fun H1 a o fs fs' e1 e2 => by
      have n : a ≠ x := (ne_of_none e1 e2).symm
      exact ⟨n, upd_same, by rw [upd_ne n, upd_same], by rw [upd_ne n.symm]; exact e1, fun c u z m => by rw [upd_ne m, upd_ne (ne_of_none z e2)]; exact z⟩
    refine fun a1 h1 => ?_
    obtain ⟨n1, x1, y1, z1, f1⟩ := step H a1 (.dK []) [] (putF "offsets" (.ref a1) []) q0 h1
    refine ⟨_, rfl, x, _, dx, _, rfl, z1, Z.cl, Z.n1, (by show 0 < 1000; decide), ?_⟩
    generalize upd (upd H a1 (.dK [])) x (.ins (He.ga K "Parts") dx (putF "offsets" (.ref a1) [])) = H1 at x1 y1 f1 ⊢
    refine fun a2 h2 => ?_
    obtain ⟨n2, x2, y2, z2, f2⟩ := step H1 a2 (.dK []) _ (putF "homes" (.ref a2) (putF "offsets" (.ref a1) [])) x1 h2
    refine ⟨_, rfl, x, _, dx, _, rfl, z2, Z.cl, Z.n2, (by show 1 < 1000; decide), ?_⟩
    have w1 := f2 _ _ y1 n1
    generalize upd (upd H1 a2 (.dK [])) x (.ins (He.ga K "Parts") dx (putF "homes" (.ref a2) (putF "offsets" (.ref a1) []))) = H2 at x2 y2 f2 w1 ⊢
    refine fun a3 h3 => ?_
    obtain ⟨n3, x3, y3, z3, f3⟩ := step H2 a3 (.dT []) _ (putF "rules" (.ref a3) (putF "homes" (.ref a2) (putF "offsets" (.ref a1) []))) x2 h3
    refine ⟨_, rfl, x, _, dx, _, rfl, z3, Z.cl, Z.n3, (by show 2 < 1000; decide), ?_⟩
    have w2 := f3 _ _ w1 n1
    have v2 := f3 _ _ y2 n2
    generalize upd (upd H2 a3 (.dT [])) x (.ins (He.ga K "Parts") dx (putF "rules" (.ref a3) (putF "homes" (.ref a2) (putF "offsets" (.ref a1) [])))) = H3 at x3 y3 f3 w2 v2 ⊢
    refine fun a4 h4 => ?_
    obtain ⟨n4, x4, y4, z4, f4⟩ := step H3 a4 (.dT []) _ (pFs a1 a2 a3 a4) x3 h4
    refine ⟨_, rfl, x, _, dx, _, rfl, z4, Z.cl, Z.n4, (by show 3 < 1000; decide), ?_⟩
    have g : ∀ c o, H c = some o → c ≠ x → H3 c = some o := fun c o e m => f3 _ _ (f2 _ _ (f1 _ _ e m) m) m
    have fr : ∀ a : Addr, a ≠ x → H3 a = none → H a = none := fun a m e => by
      cases z : H a with
      | none => rfl
      | some o => rw [g a o z m] at e; cases e
    have fr2 : ∀ a : Addr, a ≠ x → H2 a = none → H a = none := fun a m e => by
      cases z : H a with
      | none => rfl
      | some o => rw [f2 a o (f1 a o z m) m] at e; cases e
    have fr1 : ∀ a : Addr, a ≠ x → H1 a = none → H a = none := fun a m e => by
      cases z : H a with
      | none => rfl
      | some o => rw [f1 a o z m] at e; cases e
    exact k ⟨x, a1, a2, a3, a4⟩ _ rfl (fun c o e m => f4 _ _ (g c o e m) m) h1 (fr1 _ n2 h2) (fr2 _ n3 h3) (fr _ n4 h4)
      ⟨⟨dx, x4⟩, f4 _ _ w2 n1, f4 _ _ v2 n2, f4 _ _ y3 n3, y4, ne_of_none y1 h2, ne_of_none y3 h4⟩
structure DRead (P : Program) (w : World) (K : PySem.W.Frag) (mg : Str → Option Value) (base : Heap) : Prop where
  mkP : Mk K (He.ga K "Parts") (He.ma K (He.ga K "Parts") "__init__")
  ini : ∃ fd, FnOk P w K mg base CX0 1 (He.ma K (He.ga K "Parts") "__init__") fd ["self"] (spPInit (He.ga K "Parts")) ∧ Binds K fd ["self"] []
  glob : mg "Parts" = some (.ref (He.ga K "Parts"))
  take : Md P w K mg base (He.ga K "Parts") CX0 6 "take" ["self", "line"] (spTake (He.ga K "Parts"))
theorem nl_split {ls : List Str} (hne : ls ≠ []) (h : ∀ z ∈ ls, 10 ∉ tl z) : Txt.split (Txt.join "\n" ls) "\n" = ls :=
  split_join (s := 10) (S := []) (by decide +kernel) (by decide +kernel) hne h
theorem scRead_parts : FnScope ["text", "parts", "number", "line"] ["text"] (defScope (top i_read_parts)) := ⟨rfl, rfl, rfl, by decide +kernel, rfl, by decide +kernel, by decide +kernel⟩
theorem ok_read (F : FnG K "read_parts" i_read_parts f fd) (T : Tx K mg) (Z : Tp K mg) (D : DRead P w K mg base) : FnOk P w K mg base CX0 8 f fd ["text"] (spRead (He.ga K "Parts")) := by
  refine F.ok scRead_parts (fun vs H Q E h => ?_) (fun cdv A outer s H vs Q E hr h => ?_)
  · obtain ⟨ls, fin, rfl, _⟩ := h
    rfl
  · obtain ⟨ls, fin, rfl, hne, h1000, hls, hlen, he, hst, k⟩ := h
    obtain ⟨fdI, GI, bI⟩ := D.ini
    refine ⟨_, PSs.nox (pss_cons (ps_set (i := 1) scRead_parts.nd rfl (Or.inl rfl) (pe_make0 D.mkP GI (hr.mono (by decide)) rfl D.glob bI .nil pass0))
        (pss_cons (ps_if (pt_cmpR op_eq (pv 0) pe_str (nomark _)) (pss_one (ps_ret (pv 1))) pss_nil)
        (pss_cons (ps_for PassesOwn.never rfl (pi_enum1 (by rfl) T.enumerate (pa_cons (pe_split (pv 0) pe_str) pa_nil)) (pg_tup rfl (pgs_cons (pg_name (i := 2) scRead_parts.nd rfl (Or.inl rfl)) (pgs_cons (pg_name (i := 3) scRead_parts.nd rfl (Or.inl rfl)) pgs_nil))) (pss_one (ps_if (pt_not (pt_val (pe_md D.take (pv 1) Z.cl (hr.mono (by decide)) pass0 (pa_cons (pv 3) pa_nil)))) (pss_one ps_never) pss_nil)))
        (pss_one (ps_ret (pv 1)))))), ?_⟩
    refine fun x dx hx hdx nx => ⟨x, dx, rfl, upd_same, fun p H1 ex fr h1 h2 h3 h4 hp => ⟨rfl, ?_⟩⟩
    have sH : Same H H1 := fun c o e => fr c o (by rw [upd_ne (ne_of_none e hx), upd_ne (ne_of_none e hdx)]; exact e) (ne_of_none e hx)
    have fH : ∀ a : Addr, (upd (upd H dx (.own x)) x (.ins (He.ga K "Parts") dx [])) a = none → H a = none := fun a e => by
      cases z : H a with
      | none => rfl
      | some o =>
        rw [upd_ne (ne_of_none z hx), upd_ne (ne_of_none z hdx), z] at e
        cases e
    have g1 := fH _ h1
    have g2 := fH _ h2
    have g3 := fH _ h3
    have g4 := fH _ h4
    clear h1 h2 h3 h4 fr fH
    subst ex
    dsimp only [gName]
    refine ⟨_, rfl, rfl, _, rfl, ifF (fun e => he (V.str.inj e)) ?_⟩
    refine ⟨_, rfl, ⟨_, rfl⟩, _, _, rfl, rfl, (by decide +kernel), by rw [sizeLine_eq]; omega, fun l hl => ?_⟩
    have sl := same_upd (o := .lst ((Txt.split (Txt.join "\n" ls) "\n").map V.str)) hl
    have lq : (upd H1 l (.lst ((Txt.split (Txt.join "\n" ls) "\n").map V.str))) l = some (.lst (ls.map V.str)) := by
      rw [upd_same, nl_split hne fun z hz => (hls z hz).1]
    have hp2 := hp.same sl
    have sH2 := sH.trans sl
    generalize upd H1 l (.lst ((Txt.split (Txt.join "\n" ls) "\n").map V.str)) = H2 at sl lq hp2 sH2 ⊢
    have nl : ∀ (H' : Hp) (s : PSt), PartsAt (He.ga K "Parts") p H' s → H' l = some (.lst (ls.map V.str)) → l ≠ p.a1 ∧ l ≠ p.a2 ∧ l ≠ p.a3 ∧ l ≠ p.a4 := fun H' s q e =>
      ⟨(fun z => by rw [z, q.o] at e; cases e), (fun z => by rw [z, q.h] at e; cases e), (fun z => by rw [z, q.r] at e; cases e), (fun z => by rw [z, q.t] at e; cases e)⟩
    refine ⟨l, _, rfl, SqL.of lq, for_it (walk_enum1 (xs := ls.map V.str))
      (fun i σ H' => ∃ (x2 x3 : Option V) (s : PSt), σ = [some (.str (Txt.join "\n" ls)), some (.ref p.x), x2, x3] ∧ PartsAt (He.ga K "Parts") p H' s ∧ Same H H' ∧ H' l = some (.lst (ls.map V.str)) ∧ StepsL s (ls.drop i) fin ∧ s.hs.length ≤ 12)
      ⟨none, none, ps0, rfl, hp2, sH2, lq, hst, Nat.zero_le _⟩ ?_ ?_ ?_⟩
    · rintro i σ H' hi ⟨x2, x3, s, rfl, q, _, e, _⟩
      exact SqL.of e
    · rintro i v σ H3 H4 hi ⟨x2, x3, s, rfl, q3, sH3, l3, st3, h12⟩ ⟨t, y1, y2, rfl, ht, rfl, e1, e2⟩
      cases e1
      have hi' : i < ls.length := by rw [List.length_map] at hi; exact hi
      have ey : y2 = .str ls[i] := by
        have : (ls.map V.str)[i]? = some (.str ls[i]) := strAt (List.getElem?_eq_getElem hi')
        exact (Option.some.inj (this.symm.trans e2)).symm
      subst ey
      have sT := same_upd (o := .tup [.int (1 + (i : Int)), .str ls[i]]) ht
      have q4 := q3.same sT
      have l4 := sT _ _ l3
      have sH4 := sH3.trans sT
      have tq : (upd H3 t (.tup [.int (1 + (i : Int)), .str ls[i]])) t = some (.tup [.int (1 + (i : Int)), .str ls[i]]) := upd_same
      generalize upd H3 t (.tup [.int (1 + (i : Int)), .str ls[i]]) = H4 at sT q4 l4 sH4 tq ⊢
      rw [List.drop_eq_getElem_cons hi'] at st3
      cases st3 with
      | cons h1 h2 =>
        obtain ⟨dy, w0⟩ := q4.at_
        have m1 : (pFs p.a1 p.a2 p.a3 p.a4).lookup ("take" : Str) = none := by
          unfold pFs
          rw [lookup_putF, if_neg (by decide +kernel), lookup_putF, if_neg (by decide +kernel), lookup_putF, if_neg (by decide +kernel), lookup_putF, if_neg (by decide +kernel)]
          rfl
        obtain ⟨n1, n2, n3, n4⟩ := nl _ _ q4 l4
        refine ⟨t, _, rfl, SqT.of tq, rfl, _, _, rfl, _, _, rfl, rfl, ?_⟩
        refine ⟨_, rfl, p.x, dy, _, rfl, w0, m1, _, rfl, p, s, _, ls[i], rfl, q4, h12, h1, (hls _ (List.getElem_mem hi')).2, fun H5 q5 b5 => ⟨_, rfl, ifN rfl ?_⟩⟩
        exact ⟨_, _, _, rfl, q5, fun c o e => b5 c o (sH4 c o e) (ne_of_none e g1) (ne_of_none e g2) (ne_of_none e g3) (ne_of_none e g4), b5 l _ l4 n1 n2 n3 n4, h2, h1.h12 h12⟩
    · rintro σ H3 ⟨x2, x3, s, rfl, q3, sH3, l3, st3, h12⟩
      rw [List.length_map, List.drop_length] at st3
      cases st3
      exact ⟨_, rfl, k p H3 sH3 hx g1 g2 g3 g4 q3⟩
end
end Wd
end
section
set_option Elab.async false
set_option linter.all false
set_option maxRecDepth 100000
set_option maxHeartbeats 1000000
namespace Wd
open PySem PySem.Spec PyProof.Rows L2 Wt TL NumText
/-- f'..', read as one -/
def tJoin (ts : List TE) : TE := fun σ H Q => tJs ts Str.empty σ H fun out H1 => Q (.str out) H1
theorem pe_joinedT {X : Cx} {v1 v2 : Expr} {rest : List Expr} {ts : List TE} {pos : Pos} (h : PJ X (v1 :: v2 :: rest) ts) : PE X (.JoinedStr (v1 :: v2 :: rest) pos) (tJoin ts) := pe_joined h
/-- the rule of a program for a kind, of what is read -/
def ruleS (rs : List ((Str × Str) × Str)) (p k : Str) : Str := match rs.find? fun r => decide (r.1 = (p, k)) with
  | some r => r.2
  | none => "keep"
def ruleLsS (rs : List ((Str × Str) × Str)) (p : Str) (ks : List Str) : List Str := ks.flatMap fun k => if ruleS rs p k = "keep" then [] else [ruleL k (ruleS rs p k)]
theorem rul_get {rs : List ((Str × Str) × Str)} {p k : Str} : (valV (rulD rs) [Sum.inr p, Sum.inr k]).getD (.str "keep") = .str (ruleS rs p k) := by
  induction rs with
  | nil => rfl
  | cons r rs ih =>
    have e : rulD (r :: rs) = ([Sum.inr r.1.1, Sum.inr r.1.2], V.str r.2) :: rulD rs := rfl
    rw [e]
    by_cases h : r.1 = (p, k)
    · rw [valV_pos (by rw [h]), show ruleS (r :: rs) p k = r.2 from by unfold ruleS; rw [List.find?_cons, decide_eq_true h]]
      rfl
    · rw [valV_neg fun z => h (Prod.ext (Sum.inr.inj (List.cons.inj z).1) (Sum.inr.inj (List.cons.inj (List.cons.inj z).2).1)), show ruleS (r :: rs) p k = ruleS rs p k from by unfold ruleS; rw [List.find?_cons, decide_eq_false h]]
      exact ih
/-- the rules of what is read are short -/
def RulesOk (rs : List ((Str × Str) × Str)) : Prop := ∀ r ∈ rs, r.2.length ≤ 140
theorem RulesOk.len {rs : List ((Str × Str) × Str)} (h : RulesOk rs) (p k : Str) : (ruleS rs p k).length ≤ 140 := by
  unfold ruleS
  split
  · rename_i r e
    exact h r (List.mem_of_find?_eq_some e)
  · decide +kernel
def spRLines : Sp := fun vs H Q _ => ∃ (a : Addr) (p : Str) (rs : List ((Str × Str) × Str)), vs = [.str p, .ref a] ∧ H a = some (.dT (rulD rs)) ∧ RulesOk rs ∧ rs.length ≤ 1000 ∧ p.length ≤ 12 ∧
  ∀ u H', Same H H' → H u = none → H' u = some (.lst ((ruleLsS rs p KS).map V.str)) → Q (.ref u) H'
section
variable {P : Program} {w : World} {K : PySem.W.Frag} {mg : Str → Option Value} {base : Heap} {f : Addr} {fd : FuncData}
theorem scRule_lines : FnScope ["program", "rules", "found", "kind", "rule"] ["program", "rules"] (defScope (top i__rule_lines)) := ⟨rfl, rfl, rfl, by decide +kernel, rfl, by decide +kernel, by decide +kernel⟩
theorem ok_rLines (F : FnG K "_rule_lines" i__rule_lines f fd) (T : Tx K mg) : FnOk P w K mg base CX0 1 f fd ["program", "rules"] spRLines := by
  refine F.ok scRule_lines (fun vs H Q E h => ?_) (fun cdv A outer s H vs Q E hr h => ?_)
  · obtain ⟨a, p, rs, rfl, _⟩ := h
    rfl
  · obtain ⟨a, p, rs, rfl, ha, ok, l1000, lp, k⟩ := h
    have hu := hu_of hr
    obtain ⟨tK, hKE⟩ := T.KEEP
    refine ⟨_, PSs.nox (pss_cons (ps_setLc (i := 2) (own := [("kind", 3)]) rfl scRule_lines.nd rfl rfl (sw_true rfl rfl rfl (by decide +kernel)) (pi_tup (pe_glob (v := .ref (He.ga K "KINDS")) rfl T.KINDS rfl)) (blkOk_by (own := [("kind", 3)]) (N := ["program", "rules", "found", "kind", "rule"]) (sc := defScope (top i__rule_lines)) (by decide +kernel)) (fun _ _ _ _ _ => (pg_name (i := 3) scRule_lines.nd rfl (Or.inl rfl))) (fun _ _ _ _ _ => pts_nil) (fun _ _ _ _ _ => (pe_tup (pa_cons (pv 3) (pa_cons (pe_dget2 hu (pv 1) (pe_tup (pa_cons (pv 0) (pa_cons (pv 3) pa_nil))) (pe_glob (v := .str "keep") rfl hKE ⟨_, rfl⟩) ⟨rfl, rfl, rfl, rfl⟩) pa_nil)))))
        (pss_one (ps_ret (pe_lc (own := [("kind", 3), ("rule", 4)]) (g := gTup K 2 (gCons (gName 3) (gCons (gName 4) gNil))) rfl scRule_lines.nd (pi_list (pv 2)) (blkOk_by (own := [("kind", 3), ("rule", 4)]) (N := ["program", "rules", "found", "kind", "rule"]) (sc := defScope (top i__rule_lines)) (by decide +kernel)) (fun _ _ _ _ _ => (pg_tup rfl (pgs_cons (pg_name (i := 3) scRule_lines.nd rfl (Or.inl rfl) (Or.inr rfl)) (pgs_cons (pg_name (i := 4) scRule_lines.nd rfl (Or.inl rfl) (Or.inr rfl)) pgs_nil)))) (fun _ _ _ _ _ => (pts_one (pt_cmpR op_ne (pv 4) (pe_glob (v := .str "keep") rfl hKE ⟨_, rfl⟩) (nomark _)))) (fun _ _ _ _ _ => (pe_joinedT (PJ.cons pe_str (PJ.cons (pe_fmt (pv 3)) (PJ.cons pe_str (PJ.cons (pe_fmt (pv 4)) PJ.nil)))))))))), ?_⟩
    have g5 : ("  " : Str).length = 2 := by decide +kernel
    have g6 : (" -> " : Str).length = 4 := by decide +kernel
    refine ⟨He.ga K "KINDS", rfl, ⟨_, T.kinds H⟩, fun D hD => lc_it (walk_tup (xs := KS.map V.str))
      (fun j H' => Same H H' ∧ ∃ vs, H' D = some (.lst vs) ∧ All2 (fun v (k : Str) => ∃ t, v = .ref t ∧ H' t = some (.tup [.str k, .str (ruleS rs p k)])) vs (KS.take j))
      ⟨same_upd hD, [], upd_same, .nil⟩ (fun j H' _ q => T.kinds H') ?_ ?_⟩
    · rintro j x H1 H1' hj ⟨s1, vs, q1, al1⟩ ⟨rfl, hx⟩
      obtain ⟨kd, hkd, rfl⟩ : ∃ z, KS[j]? = some z ∧ x = .str z := by
        rw [List.getElem?_map] at hx
        cases e : KS[j]? with
        | none => rw [e] at hx; cases hx
        | some z => exact ⟨z, rfl, by rw [e] at hx; exact (Option.some.inj hx).symm⟩
      have lj := (List.getElem?_eq_some_iff.mp hkd).1
      have ej : KS[j] = kd := (List.getElem?_eq_some_iff.mp hkd).2
      refine ⟨rfl, iteT (B := Same H H1' ∧ ∃ vs, H1' D = some (.lst vs) ∧ All2 (fun v (k : Str) => ∃ t, v = .ref t ∧ H1' t = some (.tup [.str k, .str (ruleS rs p k)])) vs (KS.take (j + 1))) ?_⟩
      have a1 := s1 _ _ ha
      refine ⟨_, rfl, _, rfl, a, rfl, .inr ⟨_, .inl a1⟩, _, rfl, _, rfl, (by show 2 ≤ sizeLine; decide), fun t ht => ?_⟩
      have sT := same_upd (o := .tup [.str p, .str kd]) ht
      have tq : (upd H1' t (.tup [.str p, .str kd])) t = some (.tup ([Sum.inr p, Sum.inr kd].map kV)) := upd_same
      have a2 := sT _ _ a1
      have q2 := sT _ _ q1
      have s2 := s1.trans sT
      have al2 : All2 (fun v (k : Str) => ∃ t', v = .ref t' ∧ (upd H1' t (.tup [.str p, .str kd])) t' = some (.tup [.str k, .str (ruleS rs p k)])) vs (KS.take j) := al1.mono fun _ _ ⟨t', e, y⟩ => ⟨t', e, sT _ _ y⟩
      generalize upd H1' t (.tup [.str p, .str kd]) = H2 at sT tq a2 q2 s2 al2 ⊢
      have dg := DGet.t a2 tq
      refine ⟨_, dg, ?_⟩
      rw [rul_get]
      refine ⟨(by show 2 ≤ sizeLine; decide), fun u hu2 => ?_⟩
      have sU := same_upd (o := .tup [.str kd, .str (ruleS rs p kd)]) hu2
      have uq : (upd H2 u (.tup [.str kd, .str (ruleS rs p kd)])) u = some (.tup [.str kd, .str (ruleS rs p kd)]) := upd_same
      have q3 := sU _ _ q2
      have s3 := s2.trans sU
      have al3 : All2 (fun v (k : Str) => ∃ t', v = .ref t' ∧ (upd H2 u (.tup [.str kd, .str (ruleS rs p kd)])) t' = some (.tup [.str k, .str (ruleS rs p k)])) vs (KS.take j) := al2.mono fun _ _ ⟨t', e, y⟩ => ⟨t', e, sU _ _ y⟩
      generalize upd H2 u (.tup [.str kd, .str (ruleS rs p kd)]) = H3 at sU uq q3 s3 al3 ⊢
      refine ⟨vs, q3, by rw [al3.len, List.length_take, sizeLine_eq]; have : KS.length = 4 := rfl; omega, fun b o e => ?_, vs ++ [.ref u], upd_same, ?_⟩
      · rw [upd_ne (ne_of_none e hD)]
        exact s3 b o e
      · rw [List.take_succ_eq_append_getElem lj, ej]
        exact (al3.mono fun _ _ y => put2 q3 y).snoc (put2 q3 ⟨u, rfl, uq⟩)
    rintro H1 ⟨s1, vs, q1, al1⟩
    dsimp only [gName]
    have e4 : KS.take (KS.map V.str).length = KS := rfl
    rw [e4] at al1
    refine ⟨_, rfl, D, rfl, ⟨vs, SqL.of q1⟩, fun D2 hD2 => lc_list (K := K) (a := D) (xs := vs)
      (fun j H' => LinesAt H1 H' D2 (ruleLsS rs p (KS.take j))) ⟨same_upd hD2, upd_same⟩ (fun j H' _ q => SqL.of (q.1 _ _ q1)) ?_ ?_⟩
    · rintro j x H2 hx hL
      obtain ⟨kd, hkd, t, rfl, tq⟩ := al1.at hx
      have lj := (List.getElem?_eq_some_iff.mp hkd).1
      have ej : KS[j] = kd := (List.getElem?_eq_some_iff.mp hkd).2
      have km := List.mem_of_getElem? hkd
      have st : ruleLsS rs p (KS.take (j + 1)) = ruleLsS rs p (KS.take j) ++ (if ruleS rs p kd = "keep" then [] else [ruleL kd (ruleS rs p kd)]) := by
        unfold ruleLsS
        rw [List.take_succ_eq_append_getElem lj, List.flatMap_append, ej]
        simp
      have l5 : (ruleLsS rs p (KS.take j)).length ≤ 4 := by
        have aux : ∀ ks : List Str, (ruleLsS rs p ks).length ≤ ks.length := fun ks => by
          induction ks with
          | nil => exact Nat.le_refl _
          | cons k ks ih =>
            unfold ruleLsS at ih ⊢
            rw [List.flatMap_cons, List.length_append, List.length_cons]
            split
            · simp only [List.length_nil]; omega
            · simp only [List.length_cons, List.length_nil]; omega
        have := aux (KS.take j)
        rw [List.length_take] at this
        have e4 : KS.length = 4 := rfl
        omega
      refine ⟨t, _, rfl, SqT.of (hL.1 _ _ tq), rfl, _, _, rfl, _, _, rfl, rfl, rfl, ?_⟩
      have lk := ks_len km
      have lr := ok.len p kd
      refine ⟨_, rfl, rfl, _, rfl, ifC' (fun hn => ?_) (fun hk => ?_)⟩
      · have hn : ¬ ruleS rs p kd = "keep" := fun z => hn (congrArg V.str z)
        rw [if_neg hn] at st
        have ge : (Str.empty : Str).length = 0 := rfl
        refine ⟨_, rfl, fitL (by rw [len_app]; omega), _, rfl, .inl ⟨kd, rfl, fitL (by omega), _, rfl, fitL (by simp only [len_app]; omega), ?_⟩⟩
        refine ⟨_, rfl, fitL (by simp only [len_app]; omega), _, rfl, .inl ⟨_, rfl, fitL (by omega), _, rfl, fitL (by simp only [len_app]; omega), ?_⟩⟩
        refine ⟨_, hL.2, by rw [List.length_map, sizeLine_eq]; omega, ?_⟩
        rw [st, e_app]
        exact hL.put hD2
      · have hk : ruleS rs p kd = "keep" := V.str.inj hk
        rw [if_pos hk, List.append_nil] at st
        rw [st]
        exact hL
    · rintro H2 hL
      have e5 : KS.take vs.length = KS := by rw [al1.len]; exact List.take_length
      rw [e5] at hL
      refine k D2 H2 (s1.trans hL.1) ?_ hL.2
      cases z : H D2 with
      | none => rfl
      | some o => rw [s1 _ _ z] at hD2; cases hD2
end
end Wd
end
section
set_option Elab.async false
set_option linter.all false
set_option maxRecDepth 100000
set_option maxHeartbeats 1000000
namespace Wd
open PySem PySem.Spec PyProof.Rows L2 Wt TL NumText
/-- what is read, as its text -/
def progS (s : PSt) (h : Str × Str) : List Str := ("program " ++ h.1 ++ " at " ++ h.2) :: ruleLsS s.rs h.1 KS
def linesS (s : PSt) : List Str := s.zs.map zoneL ++ (s.hs.flatMap (progS s) ++ s.os.map routeL)
/-- what is read is in the bounds -/
structure POk (s : PSt) : Prop where
  z : s.zs.length ≤ 6 ∧ ∀ z ∈ s.zs, nameL (tl z.1) ∧ -840 ≤ z.2 ∧ z.2 ≤ 840
  h : s.hs.length ≤ 12 ∧ ∀ z ∈ s.hs, nameL (tl z.1) ∧ nameL (tl z.2)
  r : s.rs.length ≤ 60 ∧ RulesOk s.rs
  o : s.os.length ≤ 40 ∧ ∀ z ∈ s.os, nameL (tl z.1) ∧ nameL (tl z.2)
def spNText (K : PySem.W.Frag) : Sp := fun vs H Q _ => ∃ (a1 a2 a3 t : Addr) (s : PSt) (vo : List V), vs = [.ref a1, .ref a2, .ref a3, .ref t] ∧ H a1 = some (.dK (offD s.zs)) ∧ H a2 = some (.dK (homD s.hs)) ∧ H a3 = some (.dT (rulD s.rs)) ∧ H t = some (.tup vo) ∧ All2 (PairS H) vo s.os ∧ POk s ∧
  ∀ H', Same H H' → Q (.str (Txt.join "\n" (linesS s))) H'
theorem ruleLsS_len (rs : List ((Str × Str) × Str)) (p : Str) : ∀ ks : List Str, (ruleLsS rs p ks).length ≤ ks.length
  | [] => Nat.le_refl _
  | k :: ks => by
    have ih := ruleLsS_len rs p ks
    unfold ruleLsS at ih ⊢
    rw [List.flatMap_cons, List.length_append, List.length_cons]
    split
    · simp only [List.length_nil]; omega
    · simp only [List.length_cons, List.length_nil]; omega
theorem progS_len (s : PSt) : ∀ hs : List (Str × Str), (hs.flatMap (progS s)).length ≤ 5 * hs.length
  | [] => Nat.le_refl _
  | h :: hs => by
    have ih := progS_len s hs
    have := ruleLsS_len s.rs h.1 KS
    have e4 : KS.length = 4 := rfl
    rw [List.flatMap_cons, List.length_append, List.length_cons]
    unfold progS
    rw [List.length_cons]
    unfold progS at ih
    omega
theorem lineS_len {s : PSt} (ok : POk s) : ∀ z ∈ linesS s, z.length ≤ 200 := by
  have g1 : ("zone " : Str).length = 5 := by decide +kernel
  have g2 : (" " : Str).length = 1 := by decide +kernel
  have g3 : ("program " : Str).length = 8 := by decide +kernel
  have g4 : (" at " : Str).length = 4 := by decide +kernel
  have g5 : ("  " : Str).length = 2 := by decide +kernel
  have g6 : (" -> " : Str).length = 4 := by decide +kernel
  have g7 : ("route " : Str).length = 6 := by decide +kernel
  intro z hz
  unfold linesS at hz
  rcases List.mem_append.mp hz with hz | hz
  · obtain ⟨y, hy, rfl⟩ := List.mem_map.mp hz
    have h := ok.z.2 y hy
    have h1 := name_len h.1
    have h3 := small_len (small_of (show y.2.natAbs ≤ 100000000000000000000000000000000 by omega))
    unfold zoneL
    simp only [len_app]
    omega
  rcases List.mem_append.mp hz with hz | hz
  · obtain ⟨r, hr, hz⟩ := List.mem_flatMap.mp hz
    have h := ok.h.2 r hr
    have h1 := name_len h.1
    have h2 := name_len h.2
    rcases List.mem_cons.mp hz with rfl | hz
    · simp only [len_app]
      omega
    · obtain ⟨k, hk, hz⟩ := List.mem_flatMap.mp hz
      split at hz
      · cases hz
      · rw [List.mem_singleton.mp hz]
        have h1 := ks_len hk
        have h2 := ok.r.2.len r.1 k
        unfold ruleL
        simp only [len_app]
        omega
  · obtain ⟨r, hr, rfl⟩ := List.mem_map.mp hz
    have h := ok.o.2 r hr
    have h1 := name_len h.1
    have h2 := name_len h.2
    unfold routeL
    simp only [len_app]
    omega
section
variable {P : Program} {w : World} {K : PySem.W.Frag} {mg : Str → Option Value} {base : Heap} {f : Addr} {fd : FuncData}
structure DNText (P : Program) (w : World) (K : PySem.W.Frag) (mg : Str → Option Value) (base : Heap) : Prop where
  rule_lines : Df P w K mg base CX0 1 "_rule_lines" ["program", "rules"] spRLines
theorem scNText : FnScope ["offsets", "homes", "rules", "routes", "lines", "program", "home", "zone", "offset", "start", "goal"] ["offsets", "homes", "rules", "routes"] (defScope (top i_net_text)) := ⟨rfl, rfl, rfl, by decide +kernel, rfl, by decide +kernel, by decide +kernel⟩
theorem ok_nText (F : FnG K "net_text" i_net_text f fd) (T : Tx K mg) (D : DNText P w K mg base) : FnOk P w K mg base CX0 3 f fd ["offsets", "homes", "rules", "routes"] (spNText K) := by
  refine F.ok scNText (fun vs H Q E h => ?_) (fun cdv A outer s H vs Q E hr h => ?_)
  · obtain ⟨a1, a2, a3, t, st, vo, rfl, _⟩ := h
    rfl
  · obtain ⟨a1, a2, a3, t, st, vo, rfl, h1, h2, h3, h4, h5, ok, k⟩ := h
    refine ⟨_, PSs.nox (pss_cons (ps_lock (ps_setLc (i := 4) (own := [("zone", 7), ("offset", 8)]) (g := gTup K 2 (gCons (gName 7) (gCons (gName 8) gNil))) rfl scNText.nd rfl rfl (sw_true rfl rfl rfl (by decide +kernel)) (pi_items (pv 0)) (blkOk_by (own := [("zone", 7), ("offset", 8)]) (N := ["offsets", "homes", "rules", "routes", "lines", "program", "home", "zone", "offset", "start", "goal"]) (sc := defScope (top i_net_text)) (by decide +kernel)) (fun _ _ _ _ _ => (pg_tup rfl (pgs_cons (pg_name (i := 7) scNText.nd rfl (Or.inl rfl) (Or.inr rfl)) (pgs_cons (pg_name (i := 8) scNText.nd rfl (Or.inl rfl) (Or.inr rfl)) pgs_nil)))) (fun _ _ _ _ _ => pts_nil) (fun _ _ _ _ _ => (pe_joinedT (PJ.cons pe_str (PJ.cons (pe_fmt (pv 7)) (PJ.cons pe_str (PJ.cons (pe_fmt (pv 8)) PJ.nil))))))))
        (pss_cons (ps_lock (ps_for PassesOwn.never rfl (pi_items (pv 1)) (pg_tup rfl (pgs_cons (pg_name (i := 5) scNText.nd rfl (Or.inl rfl)) (pgs_cons (pg_name (i := 6) scNText.nd rfl (Or.inl rfl)) pgs_nil))) (pss_cons (ps_expr (pe_bm PySem.F.plainAttrs_list PySem.F.slot_list_append PySem.F.type_list_append mt_append (pv 4) (pa_cons (pe_joinedT (PJ.cons pe_str (PJ.cons (pe_fmt (pv 5)) (PJ.cons pe_str (PJ.cons (pe_fmt (pv 6)) PJ.nil))))) pa_nil)))
        (pss_one (ps_expr (pe_bm PySem.F.plainAttrs_list PySem.F.slot_list_extend PySem.F.type_list_extend mt_extend (pv 4) (pa_cons (pe_cd D.rule_lines (hr.mono (by decide)) pass0 (pa_cons (pv 5) (pa_cons (pv 2) pa_nil))) pa_nil)))))))
        (pss_cons (ps_expr (pe_bm PySem.F.plainAttrs_list PySem.F.slot_list_extend PySem.F.type_list_extend mt_extend (pv 4) (pa_cons (pe_lc (own := [("start", 9), ("goal", 10)]) (g := gTup K 2 (gCons (gName 9) (gCons (gName 10) gNil))) rfl scNText.nd (pi_tup (pv 3)) (blkOk_by (own := [("start", 9), ("goal", 10)]) (N := ["offsets", "homes", "rules", "routes", "lines", "program", "home", "zone", "offset", "start", "goal"]) (sc := defScope (top i_net_text)) (by decide +kernel)) (fun _ _ _ _ _ => (pg_tup rfl (pgs_cons (pg_name (i := 9) scNText.nd rfl (Or.inl rfl) (Or.inr rfl)) (pgs_cons (pg_name (i := 10) scNText.nd rfl (Or.inl rfl) (Or.inr rfl)) pgs_nil)))) (fun _ _ _ _ _ => pts_nil) (fun _ _ _ _ _ => (pe_joinedT (PJ.cons pe_str (PJ.cons (pe_fmt (pv 9)) (PJ.cons pe_str (PJ.cons (pe_fmt (pv 10)) PJ.nil))))))) pa_nil)))
        (pss_one (ps_ret (pe_join pe_str (pv 4))))))), ?_⟩
    have g1 : ("zone " : Str).length = 5 := by decide +kernel
    have g2 : (" " : Str).length = 1 := by decide +kernel
    have g3 : ("program " : Str).length = 8 := by decide +kernel
    have g4 : (" at " : Str).length = 4 := by decide +kernel
    have g7 : ("route " : Str).length = 6 := by decide +kernel
    have ge : (Str.empty : Str).length = 0 := rfl
    have z6 := ok.z.1
    have h12 := ok.h.1
    have r60 := ok.r.1
    have o40 := ok.o.1
    refine ⟨a1, _, h1, trivial, fun od => ?_⟩
    have fr : ∀ c o, H c = some o → c ≠ a1 → (upd H a1 (.frz od (.dK (offD st.zs)))) c = some o := fun c o e n => by rw [upd_ne n]; exact e
    have fq : (upd H a1 (.frz od (.dK (offD st.zs)))) a1 = some (.frz od (.dK (offD st.zs))) := upd_same
    have back : ∀ H' : Hp, Same (upd H a1 (.frz od (.dK (offD st.zs)))) H' → Same H (upd H' a1 (.dK (offD st.zs))) := fun H' s c o e => by
      by_cases n : c = a1
      · subst n
        rw [upd_same, ← h1, e]
      · rw [upd_ne n]
        exact s _ _ (fr c o e n)
    generalize upd H a1 (.frz od (.dK (offD st.zs))) = H0 at fr fq back ⊢
    refine ⟨_, rfl, a1, od, _, rfl, fq, fun D hD => lc_it (walk_items (kvs := offD st.zs))
      (fun i H' => LinesAt H0 H' D ((st.zs.take i).map zoneL)) ⟨same_upd hD, upd_same⟩ (fun i H' _ q => q.1 _ _ fq) ?_ ?_⟩
    · rintro i v H1 H1' hi hL ⟨T1, x, y, rfl, ht, rfl, e1, e2⟩
      have hi' : i < st.zs.length := by unfold offD at hi; rw [List.length_map] at hi; exact hi
      have ez : (offD st.zs)[i]? = some (Sum.inr st.zs[i].1, .int st.zs[i].2) := by
        unfold offD
        rw [List.getElem?_map, List.getElem?_eq_getElem hi']
        rfl
      have ex : x = .str st.zs[i].1 := by
        have e1 : ((offD st.zs)[i]?).map (fun kv => kV kv.1) = some x := e1
        rw [ez] at e1
        exact (Option.some.inj e1).symm
      have ey : y = .int st.zs[i].2 := by
        have e2 : ((offD st.zs)[i]?).map Prod.snd = some y := e2
        rw [ez] at e2
        exact (Option.some.inj e2).symm
      subst ex ey
      have zo := ok.z.2 st.zs[i] (List.getElem_mem hi')
      have ln := name_len zo.1
      have so : small st.zs[i].2 := small_of (by omega)
      have l3 : (Str.ofString (toString st.zs[i].2)).length ≤ 61 := small_len so
      have sT := same_upd (o := .tup [.str st.zs[i].1, .int st.zs[i].2]) ht
      have tq : (upd H1 T1 (.tup [.str st.zs[i].1, .int st.zs[i].2])) T1 = some (.tup [.str st.zs[i].1, .int st.zs[i].2]) := upd_same
      have hL1 : LinesAt H0 (upd H1 T1 (.tup [.str st.zs[i].1, .int st.zs[i].2])) D ((st.zs.take i).map zoneL) := ⟨hL.1.trans sT, sT _ _ hL.2⟩
      generalize upd H1 T1 (.tup [.str st.zs[i].1, .int st.zs[i].2]) = H2 at sT tq hL1 ⊢
      refine ⟨T1, _, rfl, SqT.of tq, rfl, _, _, rfl, _, _, rfl, rfl, rfl, ?_⟩
      refine iteT (B := LinesAt H0 H2 D ((st.zs.take (i + 1)).map zoneL)) ?_
      refine ⟨_, rfl, fitL (by rw [len_app]; omega), _, rfl, .inl ⟨_, rfl, fitL (by omega), _, rfl, fitL (by simp only [len_app]; omega), _, rfl, fitL (by simp only [len_app]; omega), _, rfl, .inr ⟨_, rfl, small_log so, _, rfl, fitL (by simp only [len_app]; omega), ?_⟩⟩⟩
      refine ⟨_, hL1.2, by rw [List.length_map, List.length_map, List.length_take, sizeLine_eq]; omega, ?_⟩
      rw [List.take_succ_eq_append_getElem hi', List.map_append, e_app]
      exact hL1.put hD
    rintro H1 hL1
    have e1 : (st.zs.take (offD st.zs).length).map zoneL = st.zs.map zoneL := by
      unfold offD
      rw [List.length_map, List.take_length]
    rw [e1] at hL1
    have hDn : H D = none := by
      cases z : H D with
      | none => rfl
      | some o =>
        by_cases n : D = a1
        · rw [n, fq] at hD; cases hD
        · rw [fr _ _ z n] at hD; cases hD
    have Da1 : D ≠ a1 := fun n => by rw [n, h1] at hDn; cases hDn
    dsimp only [gName]
    refine ⟨hL1.1 _ _ fq, ?_⟩
    have hL2 : LinesAt H (upd H1 a1 (.dK (offD st.zs))) D (st.zs.map zoneL) := ⟨back _ hL1.1, by rw [upd_ne Da1]; exact hL1.2⟩
    generalize upd H1 a1 (.dK (offD st.zs)) = H2 at hL2 ⊢
    have h22 := hL2.1 _ _ h2
    have a2D : a2 ≠ D := ne_of_none h2 hDn
    refine ⟨a2, _, h22, trivial, fun od2 => ?_⟩
    have fr2 : ∀ c o, H2 c = some o → c ≠ a2 → (upd H2 a2 (.frz od2 (.dK (homD st.hs)))) c = some o := fun c o e n => by rw [upd_ne n]; exact e
    have fq2 : (upd H2 a2 (.frz od2 (.dK (homD st.hs)))) a2 = some (.frz od2 (.dK (homD st.hs))) := upd_same
    have back2 : ∀ H' : Hp, But D (upd H2 a2 (.frz od2 (.dK (homD st.hs)))) H' → But D H2 (upd H' a2 (.dK (homD st.hs))) := fun H' s c o e m => by
      by_cases n : c = a2
      · subst n
        rw [upd_same, ← h22, e]
      · rw [upd_ne n]
        exact s _ _ (fr2 c o e n) m
    have Dq2 := fr2 _ _ hL2.2 a2D.symm
    have a3q := fr2 _ _ (hL2.1 _ _ h3) (fun e => by rw [e, h2] at h3; cases h3)
    have a3D : a3 ≠ D := ne_of_none h3 hDn
    have lz : (st.zs.map zoneL).length ≤ 6 := by rw [List.length_map]; exact z6
    generalize upd H2 a2 (.frz od2 (.dK (homD st.hs))) = H3 at fr2 fq2 back2 Dq2 a3q ⊢
    refine ⟨_, rfl, a2, od2, _, rfl, fq2, for_it (walk_items (kvs := homD st.hs))
      (fun i σ H' => ∃ (x5 x6 : Option V), σ = [some (.ref a1), some (.ref a2), some (.ref a3), some (.ref t), some (.ref D), x5, x6, none, none, none, none] ∧ But D H3 H' ∧ H' D = some (.lst ((st.zs.map zoneL ++ (st.hs.take i).flatMap (progS st)).map V.str)))
      ⟨none, none, rfl, But.refl, by simpa using Dq2⟩ ?_ ?_ ?_⟩
    · rintro i σ H' hi ⟨x5, x6, rfl, b, q⟩
      exact b _ _ fq2 a2D
    · rintro i v σ H4 H4' hi ⟨x5, x6, rfl, b4, q4⟩ ⟨T1, x, y, rfl, ht, rfl, e1, e2⟩
      have hi' : i < st.hs.length := by unfold homD at hi; rw [List.length_map] at hi; exact hi
      have ez : (homD st.hs)[i]? = some (Sum.inr st.hs[i].1, .str st.hs[i].2) := by
        unfold homD
        rw [List.getElem?_map, List.getElem?_eq_getElem hi']
        rfl
      have ex : x = .str st.hs[i].1 := by
        have e1 : ((homD st.hs)[i]?).map (fun kv => kV kv.1) = some x := e1
        rw [ez] at e1
        exact (Option.some.inj e1).symm
      have ey : y = .str st.hs[i].2 := by
        have e2 : ((homD st.hs)[i]?).map Prod.snd = some y := e2
        rw [ez] at e2
        exact (Option.some.inj e2).symm
      subst ex ey
      have ho := ok.h.2 st.hs[i] (List.getElem_mem hi')
      have ln := name_len ho.1
      have lh := name_len ho.2
      have lp := progS_len st (st.hs.take i)
      rw [List.length_take] at lp
      have ll : (st.zs.map zoneL ++ (st.hs.take i).flatMap (progS st)).length ≤ 70 := by
        rw [List.length_append]
        omega
      have sT := same_upd (o := .tup [.str st.hs[i].1, .str st.hs[i].2]) ht
      have tq : (upd H4 T1 (.tup [.str st.hs[i].1, .str st.hs[i].2])) T1 = some (.tup [.str st.hs[i].1, .str st.hs[i].2]) := upd_same
      have b5 : But D H3 (upd H4 T1 (.tup [.str st.hs[i].1, .str st.hs[i].2])) := b4.trans (But.same sT)
      have q5 := sT _ _ q4
      generalize upd H4 T1 (.tup [.str st.hs[i].1, .str st.hs[i].2]) = H5 at sT tq b5 q5 ⊢
      have hst : st.zs.map zoneL ++ (st.hs.take (i + 1)).flatMap (progS st) = (st.zs.map zoneL ++ (st.hs.take i).flatMap (progS st)) ++ [("program " ++ st.hs[i].1 ++ " at " ++ st.hs[i].2)] ++ ruleLsS st.rs st.hs[i].1 KS := by
        rw [List.take_succ_eq_append_getElem hi', List.flatMap_append, ← List.append_assoc]
        simp [progS]
      generalize st.zs.map zoneL ++ (st.hs.take i).flatMap (progS st) = pre at ll q5 hst q4
      refine ⟨T1, _, rfl, SqT.of tq, rfl, _, _, rfl, _, _, rfl, rfl, ?_⟩
      refine ⟨_, rfl, tyL q5, _, rfl, fitL (by rw [len_app]; omega), _, rfl, .inl ⟨_, rfl, fitL (by omega), _, rfl, fitL (by simp only [len_app]; omega), _, rfl, fitL (by simp only [len_app]; omega), _, rfl, .inl ⟨_, rfl, fitL (by omega), _, rfl, fitL (by simp only [len_app]; omega), ?_⟩⟩⟩
      rw [e_app]
      refine ⟨D, _, _, rfl, rfl, q5, by rw [List.length_map, sizeLine_eq]; omega, ?_⟩
      have q6 : (upd H5 D (.lst (pre.map V.str ++ [.str ("program " ++ st.hs[i].1 ++ " at " ++ st.hs[i].2)]))) D = some (.lst ((pre ++ [("program " ++ st.hs[i].1 ++ " at " ++ st.hs[i].2)]).map V.str)) := by
        rw [upd_same, List.map_append]
        rfl
      have b6 : But D H3 (upd H5 D (.lst (pre.map V.str ++ [.str ("program " ++ st.hs[i].1 ++ " at " ++ st.hs[i].2)]))) := b5.trans But.upd
      have e0 : Str.ofString "program " ++ st.hs[i].1 ++ Str.ofString " at " ++ st.hs[i].2 = "program " ++ st.hs[i].1 ++ " at " ++ st.hs[i].2 := rfl
      rw [e0]
      generalize upd H5 D (.lst (pre.map V.str ++ [.str ("program " ++ st.hs[i].1 ++ " at " ++ st.hs[i].2)])) = H6 at q6 b6 ⊢
      have lr := ruleLsS_len st.rs st.hs[i].1 KS
      have e4 : KS.length = 4 := rfl
      refine ⟨_, rfl, tyL q6, _, rfl, _, rfl, a3, st.hs[i].1, st.rs, rfl, b6 _ _ a3q a3D, ok.r.2, by omega, ln, fun u H7 s7 hu7 q7 => ?_⟩
      refine ⟨D, u, _, _, rfl, rfl, s7 _ _ q6, q7, by rw [List.length_map, List.length_map, List.length_append, List.length_singleton, sizeLine_eq]; omega, ?_⟩
      refine ⟨_, _, rfl, (b6.trans (But.same s7)).trans But.upd, ?_⟩
      rw [upd_same, hst, List.map_append (l₂ := ruleLsS st.rs st.hs[i].1 KS)]
    rintro σ H4 ⟨x5, x6, rfl, b4, q4⟩
    have e2 : (st.hs.take (homD st.hs).length).flatMap (progS st) = st.hs.flatMap (progS st) := by
      unfold homD
      rw [List.length_map, List.take_length]
    rw [e2] at q4
    refine ⟨b4 _ _ fq2 a2D, ?_⟩
    have b5 := back2 _ b4
    have q5 : (upd H4 a2 (.dK (homD st.hs))) D = some (.lst ((st.zs.map zoneL ++ st.hs.flatMap (progS st)).map V.str)) := by
      rw [upd_ne a2D.symm]
      exact q4
    generalize upd H4 a2 (.dK (homD st.hs)) = H5 at b5 q5 ⊢
    have sH : ∀ c o, H c = some o → H5 c = some o := fun c o e => b5 _ _ (hL2.1 _ _ e) (ne_of_none e hDn)
    have lp := progS_len st st.hs
    have lo := h5.len
    have l60 : (st.zs.map zoneL ++ st.hs.flatMap (progS st)).length ≤ 70 := by
      rw [List.length_append]
      omega
    refine ⟨_, rfl, tyL q5, _, rfl, t, rfl, ⟨vo, SqT.of (sH _ _ h4)⟩, fun D2 hD2 => lc_it (walk_tup (xs := vo))
      (fun i H' => LinesAt H5 H' D2 ((st.os.take i).map routeL)) ⟨same_upd hD2, upd_same⟩ (fun i H' _ q => SqT.of (q.1 _ _ (sH _ _ h4))) ?_ ?_⟩
    · rintro i x H6 H6' hi hL6 ⟨rfl, hx⟩
      obtain ⟨r, hr1, c, rfl, q1⟩ := h5.at hx
      have li := (List.getElem?_eq_some_iff.mp hr1).1
      have er : st.os[i] = r := (List.getElem?_eq_some_iff.mp hr1).2
      have ro := ok.o.2 r (List.mem_of_getElem? hr1)
      have n1 := name_len ro.1
      have n2 := name_len ro.2
      refine ⟨c, _, rfl, SqT.of (hL6.1 _ _ (sH _ _ q1)), rfl, _, _, rfl, _, _, rfl, rfl, rfl, ?_⟩
      refine iteT (B := LinesAt H5 H6' D2 ((st.os.take (i + 1)).map routeL)) ?_
      refine ⟨_, rfl, fitL (by rw [len_app]; omega), _, rfl, .inl ⟨_, rfl, fitL (by omega), _, rfl, fitL (by simp only [len_app]; omega), _, rfl, fitL (by simp only [len_app]; omega), _, rfl, .inl ⟨_, rfl, fitL (by omega), _, rfl, fitL (by simp only [len_app]; omega), ?_⟩⟩⟩
      refine ⟨_, hL6.2, by rw [List.length_map, List.length_map, List.length_take, sizeLine_eq]; omega, ?_⟩
      rw [List.take_succ_eq_append_getElem li, List.map_append, er, e_app]
      exact hL6.put hD2
    rintro H6 hL6
    rw [lo, List.take_length] at hL6
    refine ⟨D, D2, _, _, rfl, rfl, hL6.1 _ _ q5, hL6.2, by rw [List.length_map, List.length_map, List.length_map, sizeLine_eq]; omega, ?_⟩
    have ll : (linesS st).length ≤ 120 := by
      unfold linesS
      rw [List.length_append, List.length_append, List.length_map, List.length_map]
      omega
    refine ⟨⟨_, rfl⟩, _, rfl, _, D, linesS st, rfl, rfl, .inl (SqL.of ?_), ?_, k _ fun c o e => ?_⟩
    · rw [upd_same]
      unfold linesS
      rw [List.map_append, List.map_append, List.map_append]
      simp
    · have := sum_le (f := fun z : Str => z.length) (lineS_len ok)
      have gn : ("\n" : Str).length = 1 := by decide +kernel
      rw [gn]
      omega
    · rw [upd_ne (ne_of_none e hDn)]
      exact hL6.1 _ _ (sH _ _ e)
end
end Wd
end
section
set_option Elab.async false
set_option linter.all false
set_option maxRecDepth 100000
set_option maxHeartbeats 1000000
set_option pp.maxSteps 600
/-! A dict comprehension that a name of the def takes; the walk of a dict comprehension in the walks' words. -/
namespace Wd
open PySem PySem.Spec PyProof.Rows L2
section
variable {X : Cx}
theorem swD_true {kx vx : Expr} {gs : List Comprehension} {scope : Scope} {pos py : Pos} {y : Str} {l : Nat} {env : Env} (hk : env.scope.kind = .function) (hy : env.scope.names.lookup y = some .local) (hl : (py.line == pos.line) = true)
    (ha : (scope.names.any fun (n, k) => n == y && (k == .local || k == .cell)) = false) : swapsWith (.DictComp kx vx gs scope pos) (some (.Name y py)) l env = pure true := by
  have ky : env.kindOf y = some .local := hy
  have hb : env.blockKind = .function := by unfold Env.blockKind; rw [hk]; rfl
  unfold swapsWith
  simp only [hb, ky, ha, Expr.pos, hl]
  rfl
theorem ps_setDc {i : Nat} {y : Str} {py : Pos} {kx vx tg iter : Expr} {ifs : List Expr} {scope : Scope} {own : List (Str × Nat)} {pos spos : Pos} {wi : TI} {g : TG} {tt : TT} {tk tv : TE} (hc : X.calm = true) (hN : X.N.Nodup) (hy : X.N[i]? = some y) (hyl : X.env.scope.names.lookup y = some .local)
    (hsw : swapsWith (.DictComp kx vx [⟨tg, iter, ifs, 0⟩] scope pos) (some (.Name y py)) spos.line X.env = pure true) (hi : PI X tg iter wi) (ok : BlkOk X.N X.env.scope scope own)
    (hg : ∀ (s : Shared) (H : Hp) (C : Addr) (cl : List (Str × Addr)) (fp : List Addr), PG (X.blk s H scope (compEnvC scope cl C X.env) fp) tg g) (ht : ∀ (s : Shared) (H : Hp) (C : Addr) (cl : List (Str × Addr)) (fp : List Addr), PTs (X.blk s H scope (compEnvC scope cl C X.env) fp) ifs tt)
    (hk : ∀ (s : Shared) (H : Hp) (C : Addr) (cl : List (Str × Addr)) (fp : List Addr), PE (X.blk s H scope (compEnvC scope cl C X.env) fp) kx tk)
    (he : ∀ (s : Shared) (H : Hp) (C : Addr) (cl : List (Str × Addr)) (fp : List Addr), PE (X.blk s H scope (compEnvC scope cl C X.env) fp) vx tv) (hs : ∀ x, foldedSetIterable iter X.env x = pure x := by intro _; rfl) :
    PS X (.Assign [.Name y py] (.DictComp kx vx [⟨tg, iter, ifs, 0⟩] scope pos) spos) (tAsg (tDc wi g tt tk tv (own.map (·.2))) (gName i)) := by
  refine ⟨fun pins s σ H D I h => ?_⟩
  rw [exec_Assign_Name_used _ _ _ _ hsw]
  refine wpAny_bind (wpAny_standAt (wpAny_bind ?_))
  show wpAny _ X.A (do let _ ← comprehension (.DictComp kx vx [⟨tg, iter, ifs, 0⟩] scope pos) scope X.env (firstIterPos [⟨tg, iter, ifs, 0⟩] pos) newDict false (eval iter X.env) (some (assign (.Name y py) X.env))) _ _ s
  have h : tDc wi g tt tk tv (own.map (·.2)) σ H (fun x H1 => gName i x σ H1 D.nx) := h
  refine wpAny_bind (thn (dc_core (Qf := fun _ s' => SP X pins D .next s') hc hN I hi ok hg ht hk he hs h fun L C s' m H' I' q hn f => ?_) fun _ s' hq => wpAny_pure (wpAny_pure hq))
  show wpAny _ _ (assign (.Name y py) X.env (.ref L)) _ _ _
  refine wpAny_assign_Name (store_ok2 (v := V.ref L) I' hN hy (.inl hyl) rfl (fun s2 I2 ⟨a, sb, ha⟩ => ?_) (.inr hyl))
  obtain ⟨f0, f1, f2, f3, f4, f5⟩ := f
  have haC : C ≠ a := by
    rcases ha with z | z
    · rw [z]; exact f1
    · exact fun e => f4 y a z e.symm
  refine ⟨m, hn.sameBut sb haC, fun h3 sb3 => ?_⟩
  exact ⟨_, H', I2.turned (t' := s2.toks) (fun b o hb e => (sb3.2 b hb).trans e) f0 f1 f3 f4 f5, q⟩
end
theorem nd_idx {α : Type} : ∀ {xs : List α} {i j : Nat} {x : α}, xs.Nodup → xs[i]? = some x → xs[j]? = some x → i = j
  | [], i, _, _, _, h, _ => by simp at h
  | y :: ys, 0, 0, _, _, _, _ => rfl
  | y :: ys, 0, j + 1, x, nd, h, h2 => by
    simp at h
    subst h
    rw [List.getElem?_cons_succ] at h2
    exact absurd (List.mem_of_getElem? h2) (List.nodup_cons.mp nd).1
  | y :: ys, i + 1, 0, x, nd, h, h2 => by
    simp at h2
    subst h2
    rw [List.getElem?_cons_succ] at h
    exact absurd (List.mem_of_getElem? h) (List.nodup_cons.mp nd).1
  | y :: ys, i + 1, j + 1, x, nd, h, h2 => by
    rw [List.getElem?_cons_succ] at h h2
    rw [nd_idx (List.nodup_cons.mp nd).2 h h2]
theorem nd_get {α : Type} {xs : List α} (nd : xs.Nodup) {i j : Nat} {hi : i < xs.length} {hj : j < xs.length} (e : xs[i] = xs[j]) : i = j :=
  nd_idx nd (List.getElem?_eq_getElem hi) (by rw [e]; exact List.getElem?_eq_getElem hj)
/-- tuple(xs), xs a list or a tuple -/
def rTupOf (K : PySem.W.Frag) : List V → Hp → VK → Prop := fun xs H Q => ∃ p ys, xs = [.ref p] ∧ ((SqL K H p ys ∧ ∀ l, H l = none → Q (.ref l) (upd H l (.tup ys))) ∨ (SqT K H p ys ∧ Q (.ref p) H))
theorem call_tuple_ofR {X : Cx} : CallR X (.type "tuple") (rTupOf X.K) := call_tuple_of
section
variable {J : It} {n : Nat} {G : Hp → Prop} {Y : Nat → Hp → V → Hp → Prop}
theorem dc_it (w : Walk J n G Y) {g : TG} {tt : TT} {tk tv : TE} {vs : List Nat} {σ : L2.St} {H1 : Hp} {D : Addr} {Qd : Hp → Prop} (Pv : Nat → Hp → Prop) (h0 : Pv 0 (upd H1 D (.dK []))) (hG : ∀ i H, i ≤ n → Pv i H → G H)
    (hs : ∀ i x H H', i < n → Pv i H → Y i H x H' → g x (wipe σ vs) H' fun σ2 H2 => wipe σ2 vs = wipe σ vs ∧ tt σ2 H2 fun b H3 =>
      if b = true then tk σ2 H3 fun y H4 => tv σ2 H4 fun z H5 => ∃ kvs k, y = kV k ∧ H5 D = some (.dK kvs) ∧ kvs.length < sizeLine ∧ Pv (i + 1) (upd H5 D (.dK (putK kvs k z))) else Pv (i + 1) H3) (hd : ∀ H, Pv n H → Qd H) :
    ∃ W : Nat → Nat → Hp → Prop, (∃ m, W 0 m (upd H1 D (.dK []))) ∧ ∀ i m H, W i m H →
      (J.stop i H ∧ Qd H) ∨ (J.go i H ∧ ∃ Nx : Hp → Prop, (∀ H', Nx H' → ∃ m', m' < m ∧ W (i + 1) m' H') ∧ ∀ x H', J.yld i H x H' → g x (wipe σ vs) H' fun σ2 H2 => wipe σ2 vs = wipe σ vs ∧ tt σ2 H2 fun b H3 =>
        if b = true then tk σ2 H3 fun y H4 => tv σ2 H4 fun z H5 => ∃ kvs k, y = kV k ∧ H5 D = some (.dK kvs) ∧ kvs.length < sizeLine ∧ Nx (upd H5 D (.dK (putK kvs k z))) else Nx H3) := by
  refine ⟨fun i m H => m = n - i ∧ i ≤ n ∧ Pv i H, ⟨n, by simp, Nat.zero_le _, h0⟩, ?_⟩
  rintro i m H ⟨rfl, hi, p⟩
  have q := hG i H hi p
  by_cases hlt : i < n
  · refine .inr ⟨w.goes i H hlt q, Pv (i + 1), fun H' p' => ⟨n - (i + 1), by omega, rfl, hlt, p'⟩, fun x H' y => hs i x H H' hlt p (w.yields i H x H' hlt q y)⟩
  · have e : i = n := by omega
    subst e
    exact .inl ⟨w.stops H q, hd H p⟩
end
end Wd
end
section
set_option Elab.async false
set_option linter.all false
set_option maxRecDepth 100000
set_option maxHeartbeats 1000000
set_option pp.maxSteps 600
namespace Wd
open PySem PySem.Spec PyProof.Rows L2 Wt TL NumText
/-- the programs to which routes lead from p -/
def goalsOf (os : List (Str × Str)) (p : Str) : List Str := (os.filter fun r => decide (r.1 = p)).map Prod.snd
theorem goalsOf_len (os : List (Str × Str)) (p : Str) : (goalsOf os p).length ≤ os.length := by
  unfold goalsOf
  rw [List.length_map]
  exact List.length_filter_le _ _
theorem goalsOf_snoc (os : List (Str × Str)) (r : Str × Str) (p : Str) : goalsOf (os ++ [r]) p = if r.1 = p then goalsOf os p ++ [r.2] else goalsOf os p := by
  unfold goalsOf
  rw [List.filter_append, List.map_append]
  by_cases e : r.1 = p
  · rw [if_pos e]; simp [e]
  · rw [if_neg e]; simp [e]
/-- names and addresses as a dict -/
def zipD (ns : List Str) (ts : List Addr) : List (Key × V) := List.zipWith (fun n t => (Sum.inr n, V.ref t)) ns ts
theorem zipD_len {ns : List Str} {ts : List Addr} (e : ts.length = ns.length) : (zipD ns ts).length = ns.length := by
  unfold zipD
  rw [List.length_zipWith, e, Nat.min_self]
theorem zipD_at : ∀ {ns : List Str} {ts : List Addr} {i : Nat}, ts.length = ns.length → (zipD ns ts)[i]? = match ns[i]?, ts[i]? with
    | some n, some t => some (Sum.inr n, V.ref t)
    | _, _ => none := by
  intro ns ts i _
  unfold zipD
  rw [List.getElem?_zipWith]
  cases ns[i]? <;> cases ts[i]? <;> rfl
theorem zipD_none : ∀ {ns : List Str} {ts : List Addr} {n : Str}, n ∉ ns → valV (zipD ns ts) (.inr n) = none
  | [], _, _, _ => rfl
  | _ :: _, [], _, _ => rfl
  | m :: ns, t :: ts, n, h => by
    unfold zipD
    rw [List.zipWith_cons_cons, valV_neg (fun e => h (by rw [← Sum.inr.inj e]; exact List.mem_cons_self))]
    exact zipD_none fun q => h (List.mem_cons_of_mem _ q)
theorem zipD_val : ∀ {ns : List Str} {ts : List Addr} {i : Nat} {n : Str} {t : Addr}, ns.Nodup → ns[i]? = some n → ts[i]? = some t → valV (zipD ns ts) (.inr n) = some (.ref t)
  | [], _, i, _, _, _, h, _ => by simp at h
  | _ :: _, [], i, _, _, _, _, h => by simp at h
  | m :: ns, u :: ts, 0, n, t, nd, h, h2 => by
    simp at h h2
    subst h h2
    unfold zipD
    rw [List.zipWith_cons_cons, valV_pos rfl]
  | m :: ns, u :: ts, i + 1, n, t, nd, h, h2 => by
    simp only [List.getElem?_cons_succ] at h h2
    have nd2 := List.nodup_cons.mp nd
    unfold zipD
    rw [List.zipWith_cons_cons, valV_neg (fun e => nd2.1 (by rw [Sum.inr.inj e]; exact List.mem_of_getElem? h))]
    exact zipD_val nd2.2 h h2
theorem zipD_snoc {ns : List Str} {ts : List Addr} {n : Str} {t : Addr} (e : ts.length = ns.length) : zipD (ns ++ [n]) (ts ++ [t]) = zipD ns ts ++ [(Sum.inr n, V.ref t)] := by
  unfold zipD
  rw [List.zipWith_append e.symm]
  rfl
theorem All2.memL {α β : Type} {R S : α → β → Prop} : ∀ {xs : List α} {ys : List β}, All2 R xs ys → (∀ x y, x ∈ xs → R x y → S x y) → All2 S xs ys
  | [], [], _, _ => .nil
  | [], _ :: _, h, _ => by cases h
  | _ :: _, [], h, _ => by cases h
  | x :: xs, y :: ys, h, f => by
    cases h with
    | cons h1 h2 => exact .cons (f x y List.mem_cons_self h1) (All2.memL h2 fun a b m r => f a b (List.mem_cons_of_mem _ m) r)
theorem All2.idx {α β : Type} {R S : α → β → Prop} : ∀ {xs : List α} {ys : List β}, All2 R xs ys → (∀ (i : Nat) x y, xs[i]? = some x → ys[i]? = some y → R x y → S x y) → All2 S xs ys
  | [], [], _, _ => .nil
  | [], _ :: _, h, _ => by cases h
  | _ :: _, [], h, _ => by cases h
  | x :: xs, y :: ys, h, f => by
    cases h with
    | cons h1 h2 => exact .cons (f 0 x y rfl rfl h1) (All2.idx h2 fun i a b m n r => f (i + 1) a b (by rw [List.getElem?_cons_succ]; exact m) (by rw [List.getElem?_cons_succ]; exact n) r)
/-- at l the list of the goals so far; at t their tuple -/
def GoalL (H : Hp) (os : List (Str × Str)) (l : Addr) (n : Str) : Prop := H l = some (.lst ((goalsOf os n).map V.str))
def TgRow (H : Hp) (os : List (Str × Str)) (t : Addr) (n : Str) : Prop := H t = some (.tup ((goalsOf os n).map V.str))
/-- at a the dict of the targets -/
def TgtAt (H : Hp) (a : Addr) (ns : List Str) (os : List (Str × Str)) : Prop := ∃ ts : List Addr, H a = some (.dK (zipD ns ts)) ∧ All2 (TgRow H os) ts ns
theorem TgtAt.same {H H' : Hp} {a : Addr} {ns : List Str} {os : List (Str × Str)} (s : Same H H') (h : TgtAt H a ns os) : TgtAt H' a ns os := by
  obtain ⟨ts, h1, h2⟩ := h
  exact ⟨ts, s _ _ h1, h2.mono fun _ _ y => s _ _ y⟩
/-- the lists of the walk -/
structure ListsAt (H0 H : Hp) (D : Addr) (ns : List Str) (ls : List Addr) (os : List (Str × Str)) : Prop where
  s : Same H0 H
  d : H D = some (.dK (zipD ns ls))
  l : All2 (GoalL H os) ls ns
  nd : ls.Nodup
  nw : ∀ x ∈ ls, H0 x = none
  nD : D ∉ ls
def spGoals : Sp := fun vs H Q _ => ∃ (t1 t3 : Addr) (ns : List Str) (os : List (Str × Str)) (vo : List V), vs = [.ref t1, .ref t3] ∧ H t1 = some (.tup (ns.map V.str)) ∧ H t3 = some (.tup vo) ∧ All2 (PairS H) vo os ∧ ns.length ≤ 12 ∧ os.length ≤ 40 ∧ ns.Nodup ∧ (∀ r ∈ os, r.1 ∈ ns) ∧
  ∀ a H', Same H H' → H a = none → TgtAt H' a ns os → Q (.ref a) H'
section
variable {P : Program} {w : World} {K : PySem.W.Frag} {mg : Str → Option Value} {base : Heap} {f : Addr} {fd : FuncData}
theorem scGoals : FnScope ["programs", "routes", "found", "start", "goal", "p", "goals"] ["programs", "routes"] (defScope (top i__goals_by_start)) := ⟨rfl, rfl, rfl, by decide +kernel, rfl, by decide +kernel, by decide +kernel⟩
theorem ok_goals (F : FnG K "_goals_by_start" i__goals_by_start f fd) (T : Tx K mg) : FnOk P w K mg base CX0 1 f fd ["programs", "routes"] spGoals := by
  refine F.ok scGoals (fun vs H Q E h => ?_) (fun cdv A outer s H vs Q E hr h => ?_)
  · obtain ⟨t1, t3, ns, os, vo, rfl, _⟩ := h
    rfl
  · obtain ⟨t1, t3, ns, os, vo, rfl, h1, h3, h5, n12, o40, nd, hin, k⟩ := h
    have hu := hu_of hr
    refine ⟨_, PSs.nox (pss_cons (ps_setDc (i := 2) (own := [("p", 5)]) rfl scGoals.nd rfl rfl (swD_true rfl rfl rfl (by decide +kernel)) (pi_tup (pv 0)) (blkOk_by (own := [("p", 5)]) (N := ["programs", "routes", "found", "start", "goal", "p", "goals"]) (sc := defScope (top i__goals_by_start)) (by decide +kernel)) (fun _ _ _ _ _ => (pg_name (i := 5) scGoals.nd rfl (Or.inl rfl))) (fun _ _ _ _ _ => pts_nil) (fun _ _ _ _ _ => (pv 5)) (fun _ _ _ _ _ => (pe_lst pa_nil)))
        (pss_cons (ps_for PassesOwn.never rfl (pi_tup (pv 1)) (pg_tup rfl (pgs_cons (pg_name (i := 3) scGoals.nd rfl (Or.inl rfl)) (pgs_cons (pg_name (i := 4) scGoals.nd rfl (Or.inl rfl)) pgs_nil))) (pss_one (ps_expr (pe_bm PySem.F.plainAttrs_list PySem.F.slot_list_append PySem.F.type_list_append mt_append (pe_dget hu (pv 2) (pv 3) (fun _ _ => rfl)) (pa_cons (pv 4) pa_nil)))))
        (pss_one (ps_ret (pe_lock (pe_dc (own := [("p", 5), ("goals", 6)]) (g := gTup K 2 (gCons (gName 5) (gCons (gName 6) gNil))) rfl scGoals.nd (pi_items (pv 2)) (blkOk_by (own := [("p", 5), ("goals", 6)]) (N := ["programs", "routes", "found", "start", "goal", "p", "goals"]) (sc := defScope (top i__goals_by_start)) (by decide +kernel)) (fun _ _ _ _ _ => (pg_tup rfl (pgs_cons (pg_name (i := 5) scGoals.nd rfl (Or.inl rfl) (Or.inr rfl)) (pgs_cons (pg_name (i := 6) scGoals.nd rfl (Or.inl rfl) (Or.inr rfl)) pgs_nil)))) (fun _ _ _ _ _ => pts_nil) (fun _ _ _ _ _ => (pv 5)) (fun _ _ _ _ _ => (pe_callTy (r := rTupOf K) call_tuple_ofR (by rfl) T.tuple (by decide +kernel) (pa_cons (pv 6) pa_nil))))))))), ?_⟩
    refine ⟨_, rfl, t1, rfl, ⟨_, SqT.of h1⟩, fun D hD => dc_it (walk_tup (xs := ns.map V.str))
      (fun i H' => ∃ ls, ListsAt H H' D (ns.take i) ls []) ⟨[], same_upd hD, upd_same, (by rw [List.take_zero]; exact .nil), List.nodup_nil, (fun _ h => by cases h), (fun h => by cases h)⟩ (fun i H' _ q => SqT.of (q.choose_spec.s _ _ h1)) ?_ ?_⟩
    · rintro i x H1 H1' hi ⟨ls, hL⟩ ⟨rfl, hx⟩
      have hi' : i < ns.length := by rw [List.length_map] at hi; exact hi
      have ex : x = .str ns[i] := by
        have e : (ns.map V.str)[i]? = some (.str ns[i]) := strAt (List.getElem?_eq_getElem hi')
        exact (Option.some.inj (e.symm.trans hx)).symm
      subst ex
      have ll : ls.length = (ns.take i).length := hL.l.len
      have nin : ns[i] ∉ ns.take i := fun h => by
        obtain ⟨j, hj, e⟩ := List.getElem_of_mem h
        rw [List.length_take] at hj
        rw [List.getElem_take] at e
        have := nd_get nd e
        omega
      refine ⟨rfl, ?_⟩
      refine iteT (B := ∃ ls, ListsAt H H1' D (ns.take (i + 1)) ls []) ?_
      refine ⟨_, rfl, (by show 0 ≤ sizeLine; decide), fun l hl => ?_⟩
      have lD : l ≠ D := fun e => by rw [e, hL.d] at hl; cases hl
      refine ⟨_, Sum.inr ns[i], rfl, (by rw [upd_ne lD.symm]; exact hL.d), by rw [zipD_len ll, List.length_take, sizeLine_eq]; omega, ls ++ [l], ?_⟩
      have hHl : H l = none := by
        cases z : H l with
        | none => rfl
        | some o => rw [hL.s _ _ z] at hl; cases hl
      have lls : l ∉ ls := fun h => by
        obtain ⟨j, hj, e⟩ := List.getElem_of_mem h
        obtain ⟨n, _, g⟩ := hL.l.at (List.getElem?_eq_getElem hj)
        have g : H1' ls[j] = some _ := g
        rw [e, hl] at g
        cases g
      refine ⟨fun c o e => ?_, ?_, ?_, ?_, ?_, ?_⟩
      · rw [upd_ne (ne_of_none e hD), upd_ne (ne_of_none e hHl)]
        exact hL.s _ _ e
      · rw [upd_same, putK_new _ (zipD_none nin), ← zipD_snoc ll, List.take_succ_eq_append_getElem hi']
      · rw [List.take_succ_eq_append_getElem hi']
        refine All2.snoc ?_ ?_
        · refine All2.memL hL.l fun y n hy g => ?_
          have g : H1' y = some _ := g
          show upd _ _ _ y = some _
          rw [upd_ne (fun e => hL.nD (by rw [← e]; exact hy)), upd_ne (fun e => lls (by rw [← e]; exact hy))]
          exact g
        · show upd _ _ _ l = some _
          rw [upd_ne lD, upd_same]
          rfl
      · exact List.nodup_append.mpr ⟨hL.nd, List.nodup_cons.mpr ⟨by simp, List.nodup_nil⟩, fun x hx y hy e => lls (by rw [← List.mem_singleton.mp hy, ← e]; exact hx)⟩
      · intro x hx
        rcases List.mem_append.mp hx with hx | hx
        · exact hL.nw x hx
        · rw [List.mem_singleton.mp hx]; exact hHl
      · intro hx
        rcases List.mem_append.mp hx with hx | hx
        · exact hL.nD hx
        · exact lD (List.mem_singleton.mp hx).symm
    rintro H1 ⟨ls, hL⟩
    rw [List.length_map, List.take_length] at hL
    have lo := h5.len
    refine ⟨_, rfl, t3, rfl, ⟨vo, SqT.of (hL.s _ _ h3)⟩, for_it (walk_tup (xs := vo))
      (fun i σ H' => ∃ (x3 x4 : Option V), σ = [some (.ref t1), some (.ref t3), some (.ref D), x3, x4, none, none] ∧ ListsAt H H' D ns ls (os.take i))
      ⟨none, none, rfl, hL⟩ (fun i σ H' _ q => by obtain ⟨x3, x4, _, q⟩ := q; exact SqT.of (q.s _ _ h3)) ?_ ?_⟩
    · rintro i x σ H2 H2' hi ⟨x3, x4, rfl, hL2⟩ ⟨rfl, hx⟩
      obtain ⟨r, hr1, c, rfl, q1⟩ := h5.at hx
      have li := (List.getElem?_eq_some_iff.mp hr1).1
      have er : os[i] = r := (List.getElem?_eq_some_iff.mp hr1).2
      obtain ⟨j, hj, ej⟩ := List.getElem_of_mem (hin r (List.mem_of_getElem? hr1))
      have ll : ls.length = ns.length := hL2.l.len
      have hj2 : j < ls.length := by omega
      have dg := DGet.k (k := Sum.inr r.1) hL2.d
      rw [zipD_val (i := j) nd (by rw [List.getElem?_eq_getElem hj, ej]) (List.getElem?_eq_getElem hj2)] at dg
      obtain ⟨n, hn, g⟩ := hL2.l.at (List.getElem?_eq_getElem hj2)
      have en : n = r.1 := by rw [List.getElem?_eq_getElem hj] at hn; rw [← Option.some.inj hn]; exact ej
      subst en
      have g : H2' ls[j] = some (.lst ((goalsOf (os.take i) r.1).map V.str)) := g
      have lg := goalsOf_len (os.take i) r.1
      rw [List.length_take] at lg
      refine ⟨c, _, rfl, SqT.of (hL2.s _ _ q1), rfl, _, _, rfl, _, _, rfl, rfl, ?_⟩
      refine ⟨_, rfl, _, rfl, D, _, rfl, dg, tyL g, _, rfl, _, _, _, rfl, rfl, g, by rw [List.length_map, sizeLine_eq]; omega, ?_⟩
      have ldD : ls[j] ≠ D := fun e => hL2.nD (by rw [← e]; exact List.getElem_mem hj2)
      refine ⟨_, _, rfl, fun c o e => ?_, ?_, ?_, hL2.nd, hL2.nw, hL2.nD⟩
      · rw [upd_ne (ne_of_none e (hL2.nw _ (List.getElem_mem hj2)))]
        exact hL2.s _ _ e
      · rw [upd_ne ldD.symm]
        exact hL2.d
      · rw [List.take_succ_eq_append_getElem li, er]
        refine All2.idx hL2.l fun m y n hy hn2 g2 => ?_
        have g2 : H2' y = some _ := g2
        show upd _ _ _ y = some (.lst ((goalsOf (os.take i ++ [r]) n).map V.str))
        rw [goalsOf_snoc]
        by_cases e : m = j
        · subst e
          have ey : y = ls[m] := by rw [List.getElem?_eq_getElem hj2] at hy; exact (Option.some.inj hy).symm
          have en : n = r.1 := by rw [List.getElem?_eq_getElem hj] at hn2; rw [← Option.some.inj hn2]; exact ej
          rw [ey, en, upd_same, if_pos rfl, List.map_append]
          rfl
        · have ny : y ≠ ls[j] := fun q => e (by
            obtain ⟨hm, em⟩ := List.getElem?_eq_some_iff.mp hy
            exact nd_get hL2.nd (em.trans q))
          have nn : ¬ r.1 = n := fun q => e (by
            obtain ⟨hm, em⟩ := List.getElem?_eq_some_iff.mp hn2
            exact nd_get nd (em.trans (q.symm.trans ej.symm)))
          rw [upd_ne ny, if_neg nn]
          exact g2
    rintro σ H2 ⟨x3, x4, rfl, hL2⟩
    rw [lo, List.take_length] at hL2
    have ll : ls.length = ns.length := hL2.l.len
    refine ⟨D, _, hL2.d, trivial, fun od => ?_⟩
    have fq : (upd H2 D (.frz od (.dK (zipD ns ls)))) D = some (.frz od (.dK (zipD ns ls))) := upd_same
    have fr : ∀ c o, H2 c = some o → c ≠ D → (upd H2 D (.frz od (.dK (zipD ns ls)))) c = some o := fun c o e n => by rw [upd_ne n]; exact e
    have gl : All2 (GoalL (upd H2 D (.frz od (.dK (zipD ns ls)))) os) ls ns := All2.memL hL2.l fun y n hy g => fr _ _ g (fun e => hL2.nD (by rw [← e]; exact hy))
    generalize upd H2 D (.frz od (.dK (zipD ns ls))) = H3 at fq fr gl ⊢
    have ln : (zipD ns ls).length = ns.length := zipD_len ll
    refine ⟨_, rfl, D, od, _, rfl, fq, fun E1 hE1 => dc_it (walk_items (kvs := zipD ns ls))
      (fun i H' => ∃ ts, Same H3 H' ∧ H' E1 = some (.dK (zipD (ns.take i) ts)) ∧ All2 (TgRow H' os) ts (ns.take i)) ⟨[], same_upd hE1, upd_same, by rw [List.take_zero]; exact .nil⟩ (fun i H' _ q => by obtain ⟨ts, q, _⟩ := q; exact q _ _ fq) ?_ ?_⟩
    · rintro i v H4 H4' hi ⟨ts, s4, d4, r4⟩ ⟨T1, x, y, rfl, ht, rfl, e1, e2⟩
      have hi' : i < ns.length := by rw [ln] at hi; exact hi
      have hl' : i < ls.length := by omega
      have ez : (zipD ns ls)[i]? = some (Sum.inr ns[i], .ref ls[i]) := by
        rw [zipD_at ll, List.getElem?_eq_getElem hi', List.getElem?_eq_getElem hl']
      have ex : x = .str ns[i] := by
        have e1 : ((zipD ns ls)[i]?).map (fun kv => kV kv.1) = some x := e1
        rw [ez] at e1
        exact (Option.some.inj e1).symm
      have ey : y = .ref ls[i] := by
        have e2 : ((zipD ns ls)[i]?).map Prod.snd = some y := e2
        rw [ez] at e2
        exact (Option.some.inj e2).symm
      subst ex ey
      have lt : ts.length = (ns.take i).length := r4.len
      have nin : ns[i] ∉ ns.take i := fun h => by
        obtain ⟨j, hj, e⟩ := List.getElem_of_mem h
        rw [List.length_take] at hj
        rw [List.getElem_take] at e
        have := nd_get nd e
        omega
      have sT := same_upd (o := .tup [.str ns[i], .ref ls[i]]) ht
      have tq : (upd H4 T1 (.tup [.str ns[i], .ref ls[i]])) T1 = some (.tup [.str ns[i], .ref ls[i]]) := upd_same
      have s5 := s4.trans sT
      have d5 := sT _ _ d4
      have r5 : All2 (TgRow (upd H4 T1 (.tup [.str ns[i], .ref ls[i]])) os) ts (ns.take i) := r4.mono fun _ _ g => sT _ _ g
      generalize upd H4 T1 (.tup [.str ns[i], .ref ls[i]]) = H5 at sT tq s5 d5 r5 ⊢
      obtain ⟨n, hn, g⟩ := gl.at (List.getElem?_eq_getElem hl')
      have en : n = ns[i] := by rw [List.getElem?_eq_getElem hi'] at hn; exact (Option.some.inj hn).symm
      subst en
      have g5 : H5 ls[i] = some (.lst ((goalsOf os ns[i]).map V.str)) := s5 _ _ g
      refine ⟨T1, _, rfl, SqT.of tq, rfl, _, _, rfl, _, _, rfl, rfl, rfl, ?_⟩
      refine iteT (B := ∃ ts, Same H3 H5 ∧ H5 E1 = some (.dK (zipD (ns.take (i + 1)) ts)) ∧ All2 (TgRow H5 os) ts (ns.take (i + 1))) ?_
      refine ⟨_, rfl, _, rfl, _, _, rfl, .inl ⟨SqL.of g5, fun t ht => ?_⟩⟩
      have tE : t ≠ E1 := fun e => by rw [e, d5] at ht; cases ht
      refine ⟨_, Sum.inr ns[i], rfl, (by rw [upd_ne tE.symm]; exact d5), by rw [zipD_len lt, List.length_take, sizeLine_eq]; omega, ts ++ [t], ?_, ?_, ?_⟩
      · intro c o e
        rw [upd_ne (ne_of_none e hE1), upd_ne (ne_of_none (s5 _ _ e) ht)]
        exact s5 _ _ e
      · rw [upd_same, putK_new _ (zipD_none nin), ← zipD_snoc lt, List.take_succ_eq_append_getElem hi']
      · rw [List.take_succ_eq_append_getElem hi']
        refine All2.snoc (r5.mono fun u n q => ?_) ?_
        · have q : H5 u = some _ := q
          show upd _ _ _ u = some _
          rw [upd_ne (fun e => by rw [e, d5] at q; cases q), upd_ne (ne_of_none q ht)]
          exact q
        · show upd _ _ _ t = some _
          rw [upd_ne tE, upd_same]
    rintro H4 ⟨ts, s4, d4, r4⟩
    rw [ln, List.take_length] at d4 r4
    have E1D : E1 ≠ D := fun e => by rw [e, fq] at hE1; cases hE1
    have hHE : H E1 = none := by
      cases z : H E1 with
      | none => rfl
      | some o => rw [fr _ _ (hL2.s _ _ z) E1D] at hE1; cases hE1
    refine ⟨s4 _ _ fq, k E1 _ (fun c o e => ?_) hHE ⟨ts, ?_, r4.mono fun u n q => ?_⟩⟩
    · have n1 : c ≠ D := ne_of_none e hD
      rw [upd_ne n1]
      exact s4 _ _ (fr _ _ (hL2.s _ _ e) n1)
    · rw [upd_ne E1D]; exact d4
    · have q : H4 u = some _ := q
      show upd _ _ _ u = some _
      rw [upd_ne (fun e => by rw [e, s4 _ _ fq] at q; cases q)]
      exact q
end
end Wd
end
section
set_option Elab.async false
set_option linter.all false
set_option maxRecDepth 100000
set_option maxHeartbeats 1000000
namespace Wd
open PySem PySem.Spec PyProof.Rows L2 Wt TL NumText
/-- the facts of the class of nets -/
structure Tn (K : PySem.W.Frag) (mg : Str → Option Value) : Prop where
  cl : Cls K (He.ga K "Net")
  n1 : NoAttr K (He.ga K "Net") "_offsets"
  n2 : NoAttr K (He.ga K "Net") "_homes"
  n3 : NoAttr K (He.ga K "Net") "_rules"
  n4 : NoAttr K (He.ga K "Net") "zones"
  n5 : NoAttr K (He.ga K "Net") "programs"
  n6 : NoAttr K (He.ga K "Net") "routes"
  n7 : NoAttr K (He.ga K "Net") "text"
  n8 : NoAttr K (He.ga K "Net") "_targets"
def nF3 (a1 a2 a3 : Addr) : List (Str × V) := putF "_rules" (.ref a3) (putF "_homes" (.ref a2) (putF "_offsets" (.ref a1) []))
def nF6 (a1 a2 a3 t1 t2 t3 : Addr) : List (Str × V) := putF "routes" (.ref t3) (putF "programs" (.ref t2) (putF "zones" (.ref t1) (nF3 a1 a2 a3)))
def nF7 (a1 a2 a3 t1 t2 t3 a4 : Addr) : List (Str × V) := putF "_targets" (.ref a4) (nF6 a1 a2 a3 t1 t2 t3)
def nFs (a1 a2 a3 t1 t2 t3 a4 : Addr) (z : Str) : List (Str × V) := putF "text" (.str z) (nF7 a1 a2 a3 t1 t2 t3 a4)
section
variable {a1 a2 a3 t1 t2 t3 a4 : Addr} {z : Str}
theorem nf_off : (nFs a1 a2 a3 t1 t2 t3 a4 z).lookup ("_offsets" : Str) = some (.ref a1) := by
  unfold nFs nF7 nF6 nF3
  rw [lookup_putF, if_neg (by decide +kernel), lookup_putF, if_neg (by decide +kernel), lookup_putF, if_neg (by decide +kernel), lookup_putF, if_neg (by decide +kernel), lookup_putF, if_neg (by decide +kernel), lookup_putF, if_neg (by decide +kernel), lookup_putF, if_neg (by decide +kernel), lookup_putF, if_pos rfl]
theorem nf_hom : (nFs a1 a2 a3 t1 t2 t3 a4 z).lookup ("_homes" : Str) = some (.ref a2) := by
  unfold nFs nF7 nF6 nF3
  rw [lookup_putF, if_neg (by decide +kernel), lookup_putF, if_neg (by decide +kernel), lookup_putF, if_neg (by decide +kernel), lookup_putF, if_neg (by decide +kernel), lookup_putF, if_neg (by decide +kernel), lookup_putF, if_neg (by decide +kernel), lookup_putF, if_pos rfl]
theorem nf_rul : (nFs a1 a2 a3 t1 t2 t3 a4 z).lookup ("_rules" : Str) = some (.ref a3) := by
  unfold nFs nF7 nF6 nF3
  rw [lookup_putF, if_neg (by decide +kernel), lookup_putF, if_neg (by decide +kernel), lookup_putF, if_neg (by decide +kernel), lookup_putF, if_neg (by decide +kernel), lookup_putF, if_neg (by decide +kernel), lookup_putF, if_pos rfl]
theorem nf_rou : (nFs a1 a2 a3 t1 t2 t3 a4 z).lookup ("routes" : Str) = some (.ref t3) := by
  unfold nFs nF7 nF6
  rw [lookup_putF, if_neg (by decide +kernel), lookup_putF, if_neg (by decide +kernel), lookup_putF, if_pos rfl]
theorem nf6_rou : (nF6 a1 a2 a3 t1 t2 t3).lookup ("routes" : Str) = some (.ref t3) := by
  unfold nF6
  rw [lookup_putF, if_pos rfl]
theorem nf_tgt : (nFs a1 a2 a3 t1 t2 t3 a4 z).lookup ("_targets" : Str) = some (.ref a4) := by
  unfold nFs nF7
  rw [lookup_putF, if_neg (by decide +kernel), lookup_putF, if_pos rfl]
theorem nf7_rou : (nF7 a1 a2 a3 t1 t2 t3 a4).lookup ("routes" : Str) = some (.ref t3) := by
  unfold nF7 nF6
  rw [lookup_putF, if_neg (by decide +kernel), lookup_putF, if_pos rfl]
theorem nf6_prg : (nF6 a1 a2 a3 t1 t2 t3).lookup ("programs" : Str) = some (.ref t2) := by
  unfold nF6
  rw [lookup_putF, if_neg (by decide +kernel), lookup_putF, if_pos rfl]
end
/-- at x the net of what is read -/
structure NetAt (C x : Addr) (H : Hp) (s : PSt) : Prop where
  at_ : ∃ (dx a1 a2 a3 t1 t2 t3 a4 : Addr) (vo : List V), H x = some (.ins C dx (nFs a1 a2 a3 t1 t2 t3 a4 (Txt.join "\n" (linesS s)))) ∧ H a1 = some (.dK (offD s.zs)) ∧ H a2 = some (.dK (homD s.hs)) ∧ H a3 = some (.dT (rulD s.rs)) ∧
    H t1 = some (.tup ((s.zs.map Prod.fst).map V.str)) ∧ H t2 = some (.tup ((s.hs.map Prod.fst).map V.str)) ∧ H t3 = some (.tup vo) ∧ All2 (PairS H) vo s.os ∧ TgtAt H a4 (s.hs.map Prod.fst) s.os
theorem NetAt.same {C x : Addr} {H H' : Hp} {s : PSt} (e : Same H H') (h : NetAt C x H s) : NetAt C x H' s := by
  obtain ⟨dx, a1, a2, a3, t1, t2, t3, a4, vo, h0, h1, h2, h3, h4, h5, h6, h7, h8⟩ := h.at_
  exact ⟨dx, a1, a2, a3, t1, t2, t3, a4, vo, e _ _ h0, e _ _ h1, e _ _ h2, e _ _ h3, e _ _ h4, e _ _ h5, e _ _ h6, h7.mono fun _ _ y => y.same e, h8.same e⟩
theorem PartsAt.put {C Cn x dx : Addr} {p : PA4} {H : Hp} {s : PSt} {fs fs' : List (Str × V)} (hx : H x = some (.ins Cn dx fs)) (nx : x ≠ p.x) (h : PartsAt C p H s) : PartsAt C p (upd H x (.ins Cn dx fs')) s := by
  obtain ⟨⟨dy, h0⟩, h1, h2, h3, h4, n1, n2⟩ := h
  refine ⟨⟨dy, ?_⟩, ?_, ?_, ?_, ?_, n1, n2⟩
  · rw [upd_ne nx.symm]; exact h0
  · rw [upd_ne (fun e => by rw [e, hx] at h1; cases h1)]; exact h1
  · rw [upd_ne (fun e => by rw [e, hx] at h2; cases h2)]; exact h2
  · rw [upd_ne (fun e => by rw [e, hx] at h3; cases h3)]; exact h3
  · rw [upd_ne (fun e => by rw [e, hx] at h4; cases h4)]; exact h4
theorem keys_pairs {H : Hp} : ∀ {os : List (Str × Str)} {bs : List Addr}, IsKeys H (rouD os) bs → All2 (PairS H) (bs.map V.ref) os
  | [], [], _ => .nil
  | [], _ :: _, h => by cases h
  | _ :: _, [], h => by cases h
  | r :: os, b :: bs, h => by
    cases h with
    | cons h1 h2 => exact .cons ⟨b, rfl, h1⟩ (keys_pairs h2)
theorem offD_keys (zs : List (Str × Int)) : (offD zs).map (fun kv => kV kv.1) = (zs.map Prod.fst).map V.str := by
  unfold offD
  rw [List.map_map, List.map_map]
  rfl
theorem homD_keys (hs : List (Str × Str)) : (homD hs).map (fun kv => kV kv.1) = (hs.map Prod.fst).map V.str := by
  unfold homD
  rw [List.map_map, List.map_map]
  rfl
/-- a text that is read -/
structure Reads (ls : List Str) (fin : PSt) : Prop where
  ne : ls ≠ []
  n : ls.length ≤ 1000
  ok : ∀ z ∈ ls, 10 ∉ tl z ∧ z.length ≤ 200
  len : (Txt.join "\n" ls).length ≤ 1000000
  nn : Txt.join "\n" ls ≠ ""
  st : StepsL ps0 ls fin
  po : POk fin
theorem StepL.names {s s' : PSt} {z : Str} (h : StepL s z s') (l : (s.hs.map Prod.fst).Nodup ∧ ∀ r ∈ s.os, r.1 ∈ s.hs.map Prod.fst) : (s'.hs.map Prod.fst).Nodup ∧ ∀ r ∈ s'.os, r.1 ∈ s'.hs.map Prod.fst := by
  cases h with
  | zone => exact l
  | prog y o1 a1 a2 a3 a4 =>
    refine ⟨?_, fun r hr => ?_⟩
    · rw [List.map_append]
      exact List.nodup_append.mpr ⟨l.1, List.nodup_cons.mpr ⟨by simp, List.nodup_nil⟩, fun x hx y' hy => fun e => a4 (by have := List.mem_singleton.mp hy; rw [← this, ← e]; exact hx)⟩
    · rw [List.map_append]
      exact List.mem_append_left _ (l.2 r hr)
  | rule => exact l
  | route y a1 a2 a3 a4 a5 =>
    refine ⟨l.1, fun r hr => ?_⟩
    rcases List.mem_append.mp hr with hr | hr
    · exact l.2 r hr
    · rw [List.mem_singleton.mp hr]; exact a4
theorem StepsL.names {s s' : PSt} {zs : List Str} (h : StepsL s zs s') (l : (s.hs.map Prod.fst).Nodup ∧ ∀ r ∈ s.os, r.1 ∈ s.hs.map Prod.fst) : (s'.hs.map Prod.fst).Nodup ∧ ∀ r ∈ s'.os, r.1 ∈ s'.hs.map Prod.fst := by
  induction h with
  | nil => exact l
  | cons h1 _ ih => exact ih (h1.names l)
def spNInit (C : Addr) : Sp := fun vs H Q _ => ∃ (x dx : Addr) (ls : List Str) (fin : PSt), vs = [.ref x, .str (Txt.join "\n" ls)] ∧ H x = some (.ins C dx []) ∧ Reads ls fin ∧
  ∀ H', (∀ c o, H c = some o → c ≠ x → H' c = some o) → NetAt C x H' fin → Q .non H'
section
variable {P : Program} {w : World} {K : PySem.W.Frag} {mg : Str → Option Value} {base : Heap} {f : Addr} {fd : FuncData}
structure DNInit (P : Program) (w : World) (K : PySem.W.Frag) (mg : Str → Option Value) (base : Heap) : Prop where
  read_parts : Df P w K mg base CX0 8 "read_parts" ["text"] (spRead (He.ga K "Parts"))
  net_text : Df P w K mg base CX0 3 "net_text" ["offsets", "homes", "rules", "routes"] (spNText K)
  goals_by_start : Df P w K mg base CX0 1 "_goals_by_start" ["programs", "routes"] spGoals
theorem scNInit : FnScope ["self", "text", "parts"] ["self", "text"] (defScope (inClass (top i_Net) j_Net___init__)) := ⟨rfl, rfl, rfl, by decide +kernel, rfl, by decide +kernel, by decide +kernel⟩
theorem ok_nInit (F : FunD K "__init__" "Net.__init__" (defArgs (inClass (top i_Net) j_Net___init__)) (defBody (inClass (top i_Net) j_Net___init__)) (defScope (inClass (top i_Net) j_Net___init__)) [] [] f fd) (T : Tx K mg) (Z : Tp K mg) (Nt : Tn K mg) (D : DNInit P w K mg base) :
    FnOk P w K mg base CX0 10 f fd ["self", "text"] (spNInit (He.ga K "Net")) := by
  refine F.ok scNInit (fun vs H Q E h => ?_) (fun cdv A outer s H vs Q E hr h => ?_)
  · obtain ⟨x, dx, ls, fin, rfl, _⟩ := h
    rfl
  · obtain ⟨x, dx, ls, fin, rfl, hx, rd, k⟩ := h
    refine ⟨_, PSs.nox (pss_cons (ps_set (i := 2) scNInit.nd rfl (Or.inl rfl) (pe_cd D.read_parts (hr.mono (by decide)) pass0 (pa_cons (pv 1) pa_nil)))
        (pss_cons (ps_fld (pv 0) (pe_fld (pv 2) rfl) rfl)
        (pss_cons (ps_fld (pv 0) (pe_fld (pv 2) rfl) rfl)
        (pss_cons (ps_fld (pv 0) (pe_fld (pv 2) rfl) rfl)
        (pss_cons (ps_fld (pv 0) (pe_callTy (call_tuple_dK rfl) (by rfl) T.tuple (by decide +kernel) (pa_cons (pe_fld (pv 2) rfl) pa_nil)) rfl)
        (pss_cons (ps_fld (pv 0) (pe_callTy (call_tuple_dK rfl) (by rfl) T.tuple (by decide +kernel) (pa_cons (pe_fld (pv 2) rfl) pa_nil)) rfl)
        (pss_cons (ps_fld (pv 0) (pe_callTy (call_tuple_dT rfl) (by rfl) T.tuple (by decide +kernel) (pa_cons (pe_fld (pv 2) rfl) pa_nil)) rfl)
        (pss_cons (ps_fld (pv 0) (pe_cd D.goals_by_start (hr.mono (by decide)) pass0 (pa_cons (pe_fld (pv 0) rfl) (pa_cons (pe_fld (pv 0) rfl) pa_nil))) rfl)
        (pss_one (ps_fld (pv 0) (pe_cd D.net_text (hr.mono (by decide)) pass0 (pa_cons (pe_fld (pv 2) rfl) (pa_cons (pe_fld (pv 2) rfl) (pa_cons (pe_fld (pv 2) rfl) (pa_cons (pe_fld (pv 0) rfl) pa_nil))))) rfl)))))))))), ?_⟩
    refine ⟨_, rfl, ls, fin, rfl, rd.ne, rd.n, rd.ok, rd.len, rd.nn, rd.st, fun p H1 s1 hpx f1 f2 f3 f4 hp => ?_⟩
    have nx : x ≠ p.x := ne_of_none hx hpx
    have x1 := s1 _ _ hx
    have frs : ∀ c o, H c = some o → c ≠ x → H1 c = some o := fun c o e _ => s1 _ _ e
    obtain ⟨dy, q0⟩ := hp.at_
    refine ⟨_, rfl, p.x, _, dy, _, _, rfl, q0, Z.cl, Z.n1, pf1, _, rfl, x, _, dx, _, rfl, x1, Nt.cl, Nt.n1, (by show 0 < 1000; decide), ?_⟩
    have hp2 := hp.put (fs' := putF "_offsets" (.ref p.a1) []) x1 nx
    have x2 : (upd H1 x (.ins (He.ga K "Net") dx (putF "_offsets" (.ref p.a1) []))) x = some (.ins (He.ga K "Net") dx (putF "_offsets" (.ref p.a1) [])) := upd_same
    have frs2 : ∀ c o, H c = some o → c ≠ x → (upd H1 x (.ins (He.ga K "Net") dx (putF "_offsets" (.ref p.a1) []))) c = some o := fun c o e n => by rw [upd_ne n]; exact frs c o e n
    generalize upd H1 x (.ins (He.ga K "Net") dx (putF "_offsets" (.ref p.a1) [])) = H2 at hp2 x2 frs2 ⊢
    obtain ⟨dy2, q02⟩ := hp2.at_
    refine ⟨_, rfl, p.x, _, dy2, _, _, rfl, q02, Z.cl, Z.n2, pf2, _, rfl, x, _, dx, _, rfl, x2, Nt.cl, Nt.n2, (by show 1 < 1000; decide), ?_⟩
    have hp3 := hp2.put (fs' := putF "_homes" (.ref p.a2) (putF "_offsets" (.ref p.a1) [])) x2 nx
    have x3 : (upd H2 x (.ins (He.ga K "Net") dx (putF "_homes" (.ref p.a2) (putF "_offsets" (.ref p.a1) [])))) x = some (.ins (He.ga K "Net") dx (putF "_homes" (.ref p.a2) (putF "_offsets" (.ref p.a1) []))) := upd_same
    have frs3 : ∀ c o, H c = some o → c ≠ x → (upd H2 x (.ins (He.ga K "Net") dx (putF "_homes" (.ref p.a2) (putF "_offsets" (.ref p.a1) [])))) c = some o := fun c o e n => by rw [upd_ne n]; exact frs2 c o e n
    generalize upd H2 x (.ins (He.ga K "Net") dx (putF "_homes" (.ref p.a2) (putF "_offsets" (.ref p.a1) []))) = H3 at hp3 x3 frs3 ⊢
    obtain ⟨dy3, q03⟩ := hp3.at_
    refine ⟨_, rfl, p.x, _, dy3, _, _, rfl, q03, Z.cl, Z.n3, pf3, _, rfl, x, _, dx, _, rfl, x3, Nt.cl, Nt.n3, (by show 2 < 1000; decide), ?_⟩
    have hp4 := hp3.put (fs' := nF3 p.a1 p.a2 p.a3) x3 nx
    have x4 : (upd H3 x (.ins (He.ga K "Net") dx (nF3 p.a1 p.a2 p.a3))) x = some (.ins (He.ga K "Net") dx (nF3 p.a1 p.a2 p.a3)) := upd_same
    have frs4 : ∀ c o, H c = some o → c ≠ x → (upd H3 x (.ins (He.ga K "Net") dx (nF3 p.a1 p.a2 p.a3))) c = some o := fun c o e n => by rw [upd_ne n]; exact frs3 c o e n
    show tSeq _ _ _ _ (upd H3 x (.ins (He.ga K "Net") dx (nF3 p.a1 p.a2 p.a3)))
    generalize upd H3 x (.ins (He.ga K "Net") dx (nF3 p.a1 p.a2 p.a3)) = H4 at hp4 x4 frs4 ⊢
    obtain ⟨dy4, q04⟩ := hp4.at_
    -- zones
    refine ⟨_, rfl, p.x, _, dy4, _, _, rfl, q04, Z.cl, Z.n1, pf1, p.a1, _, rfl, hp4.o, fun t1 ht1 => ?_⟩
    rw [offD_keys]
    have sA := same_upd (o := .tup ((fin.zs.map Prod.fst).map V.str)) ht1
    have n1 : t1 ≠ x := (ne_of_none x4 ht1).symm
    refine ⟨_, rfl, x, _, dx, _, rfl, sA _ _ x4, Nt.cl, Nt.n4, (by show 3 < 1000; decide), ?_⟩
    have hp5 := (hp4.same sA).put (fs' := putF "zones" (.ref t1) (nF3 p.a1 p.a2 p.a3)) (sA _ _ x4) nx
    have x5 : (upd (upd H4 t1 (.tup ((fin.zs.map Prod.fst).map V.str))) x (.ins (He.ga K "Net") dx (putF "zones" (.ref t1) (nF3 p.a1 p.a2 p.a3)))) x = some (.ins (He.ga K "Net") dx (putF "zones" (.ref t1) (nF3 p.a1 p.a2 p.a3))) := upd_same
    have frs5 : ∀ c o, H c = some o → c ≠ x → (upd (upd H4 t1 (.tup ((fin.zs.map Prod.fst).map V.str))) x (.ins (He.ga K "Net") dx (putF "zones" (.ref t1) (nF3 p.a1 p.a2 p.a3)))) c = some o := fun c o e n => by rw [upd_ne n]; exact sA _ _ (frs4 c o e n)
    have t1q : (upd (upd H4 t1 (.tup ((fin.zs.map Prod.fst).map V.str))) x (.ins (He.ga K "Net") dx (putF "zones" (.ref t1) (nF3 p.a1 p.a2 p.a3)))) t1 = some (.tup ((fin.zs.map Prod.fst).map V.str)) := by rw [upd_ne n1, upd_same]
    generalize upd (upd H4 t1 (.tup ((fin.zs.map Prod.fst).map V.str))) x (.ins (He.ga K "Net") dx (putF "zones" (.ref t1) (nF3 p.a1 p.a2 p.a3))) = H5 at hp5 x5 frs5 t1q ⊢
    obtain ⟨dy5, q05⟩ := hp5.at_
    -- programs
    refine ⟨_, rfl, p.x, _, dy5, _, _, rfl, q05, Z.cl, Z.n2, pf2, p.a2, _, rfl, hp5.h, fun t2 ht2 => ?_⟩
    rw [homD_keys]
    have sB := same_upd (o := .tup ((fin.hs.map Prod.fst).map V.str)) ht2
    have n2 : t2 ≠ x := (ne_of_none x5 ht2).symm
    refine ⟨_, rfl, x, _, dx, _, rfl, sB _ _ x5, Nt.cl, Nt.n5, (by show 4 < 1000; decide), ?_⟩
    have hp6 := (hp5.same sB).put (fs' := putF "programs" (.ref t2) (putF "zones" (.ref t1) (nF3 p.a1 p.a2 p.a3))) (sB _ _ x5) nx
    have x6 : (upd (upd H5 t2 (.tup ((fin.hs.map Prod.fst).map V.str))) x (.ins (He.ga K "Net") dx (putF "programs" (.ref t2) (putF "zones" (.ref t1) (nF3 p.a1 p.a2 p.a3))))) x = some (.ins (He.ga K "Net") dx (putF "programs" (.ref t2) (putF "zones" (.ref t1) (nF3 p.a1 p.a2 p.a3)))) := upd_same
    have frs6 : ∀ c o, H c = some o → c ≠ x → (upd (upd H5 t2 (.tup ((fin.hs.map Prod.fst).map V.str))) x (.ins (He.ga K "Net") dx (putF "programs" (.ref t2) (putF "zones" (.ref t1) (nF3 p.a1 p.a2 p.a3))))) c = some o := fun c o e n => by rw [upd_ne n]; exact sB _ _ (frs5 c o e n)
    have t1r : (upd (upd H5 t2 (.tup ((fin.hs.map Prod.fst).map V.str))) x (.ins (He.ga K "Net") dx (putF "programs" (.ref t2) (putF "zones" (.ref t1) (nF3 p.a1 p.a2 p.a3))))) t1 = some (.tup ((fin.zs.map Prod.fst).map V.str)) := by rw [upd_ne n1]; exact sB _ _ t1q
    have t2r : (upd (upd H5 t2 (.tup ((fin.hs.map Prod.fst).map V.str))) x (.ins (He.ga K "Net") dx (putF "programs" (.ref t2) (putF "zones" (.ref t1) (nF3 p.a1 p.a2 p.a3))))) t2 = some (.tup ((fin.hs.map Prod.fst).map V.str)) := by rw [upd_ne n2, upd_same]
    generalize upd (upd H5 t2 (.tup ((fin.hs.map Prod.fst).map V.str))) x (.ins (He.ga K "Net") dx (putF "programs" (.ref t2) (putF "zones" (.ref t1) (nF3 p.a1 p.a2 p.a3)))) = H6 at hp6 x6 frs6 t1r t2r ⊢
    obtain ⟨dy6, q06⟩ := hp6.at_
    -- routes
    refine ⟨_, rfl, p.x, _, dy6, _, _, rfl, q06, Z.cl, Z.n4, pf4, p.a4, _, rfl, .inl hp6.t, fun t3 bs ht3 hb => ?_⟩
    have al6 := keys_pairs hb
    have sC := same_upd (o := .tup (bs.map V.ref)) ht3
    have n3 : t3 ≠ x := (ne_of_none x6 ht3).symm
    refine ⟨_, rfl, x, _, dx, _, rfl, sC _ _ x6, Nt.cl, Nt.n6, (by show 5 < 1000; decide), ?_⟩
    have hp7 := (hp6.same sC).put (fs' := nF6 p.a1 p.a2 p.a3 t1 t2 t3) (sC _ _ x6) nx
    have x7 : (upd (upd H6 t3 (.tup (bs.map V.ref))) x (.ins (He.ga K "Net") dx (nF6 p.a1 p.a2 p.a3 t1 t2 t3))) x = some (.ins (He.ga K "Net") dx (nF6 p.a1 p.a2 p.a3 t1 t2 t3)) := upd_same
    have frs7 : ∀ c o, H c = some o → c ≠ x → (upd (upd H6 t3 (.tup (bs.map V.ref))) x (.ins (He.ga K "Net") dx (nF6 p.a1 p.a2 p.a3 t1 t2 t3))) c = some o := fun c o e n => by rw [upd_ne n]; exact sC _ _ (frs6 c o e n)
    have t1s : (upd (upd H6 t3 (.tup (bs.map V.ref))) x (.ins (He.ga K "Net") dx (nF6 p.a1 p.a2 p.a3 t1 t2 t3))) t1 = some (.tup ((fin.zs.map Prod.fst).map V.str)) := by rw [upd_ne n1]; exact sC _ _ t1r
    have t2s : (upd (upd H6 t3 (.tup (bs.map V.ref))) x (.ins (He.ga K "Net") dx (nF6 p.a1 p.a2 p.a3 t1 t2 t3))) t2 = some (.tup ((fin.hs.map Prod.fst).map V.str)) := by rw [upd_ne n2]; exact sC _ _ t2r
    have t3s : (upd (upd H6 t3 (.tup (bs.map V.ref))) x (.ins (He.ga K "Net") dx (nF6 p.a1 p.a2 p.a3 t1 t2 t3))) t3 = some (.tup (bs.map V.ref)) := by rw [upd_ne n3, upd_same]
    have al7 : All2 (PairS (upd (upd H6 t3 (.tup (bs.map V.ref))) x (.ins (He.ga K "Net") dx (nF6 p.a1 p.a2 p.a3 t1 t2 t3)))) (bs.map V.ref) fin.os := al6.mono fun _ _ ⟨c, e, y⟩ => ⟨c, e, by
      rw [upd_ne (fun ec => by rw [ec, x6] at y; cases y)]
      exact sC _ _ y⟩
    rw [show putF "routes" (.ref t3) (putF "programs" (.ref t2) (putF "zones" (.ref t1) (nF3 p.a1 p.a2 p.a3))) = nF6 p.a1 p.a2 p.a3 t1 t2 t3 from rfl]
    generalize upd (upd H6 t3 (.tup (bs.map V.ref))) x (.ins (He.ga K "Net") dx (nF6 p.a1 p.a2 p.a3 t1 t2 t3)) = H7 at hp7 x7 frs7 t1s t2s t3s al7 ⊢
    -- targets
    have nms := rd.st.names (s := ps0) ⟨List.nodup_nil, fun r hr => by cases hr⟩
    refine ⟨_, rfl, x, _, dx, _, _, rfl, x7, Nt.cl, Nt.n5, nf6_prg, _, rfl, x, _, dx, _, _, rfl, x7, Nt.cl, Nt.n6, nf6_rou, ?_⟩
    refine ⟨t2, t3, fin.hs.map Prod.fst, fin.os, _, rfl, t2s, t3s, al7, by rw [List.length_map]; exact rd.po.h.1, rd.po.o.1, nms.1, nms.2, fun a4 Ht sT ha4 tg => ?_⟩
    have xT := sT _ _ x7
    have n4 : a4 ≠ x := (ne_of_none x7 ha4).symm
    refine ⟨_, rfl, x, _, dx, _, rfl, xT, Nt.cl, Nt.n8, (by show 6 < 1000; decide), ?_⟩
    have hpT := (hp7.same sT).put (fs' := nF7 p.a1 p.a2 p.a3 t1 t2 t3 a4) xT nx
    have xU : (upd Ht x (.ins (He.ga K "Net") dx (nF7 p.a1 p.a2 p.a3 t1 t2 t3 a4))) x = some (.ins (He.ga K "Net") dx (nF7 p.a1 p.a2 p.a3 t1 t2 t3 a4)) := upd_same
    have frsU : ∀ c o, H c = some o → c ≠ x → (upd Ht x (.ins (He.ga K "Net") dx (nF7 p.a1 p.a2 p.a3 t1 t2 t3 a4))) c = some o := fun c o e n => by rw [upd_ne n]; exact sT _ _ (frs7 c o e n)
    have t1U : (upd Ht x (.ins (He.ga K "Net") dx (nF7 p.a1 p.a2 p.a3 t1 t2 t3 a4))) t1 = some (.tup ((fin.zs.map Prod.fst).map V.str)) := by rw [upd_ne n1]; exact sT _ _ t1s
    have t2U : (upd Ht x (.ins (He.ga K "Net") dx (nF7 p.a1 p.a2 p.a3 t1 t2 t3 a4))) t2 = some (.tup ((fin.hs.map Prod.fst).map V.str)) := by rw [upd_ne n2]; exact sT _ _ t2s
    have t3U : (upd Ht x (.ins (He.ga K "Net") dx (nF7 p.a1 p.a2 p.a3 t1 t2 t3 a4))) t3 = some (.tup (bs.map V.ref)) := by rw [upd_ne n3]; exact sT _ _ t3s
    have nex : ∀ {c : Addr} {o : HO}, Ht c = some o → (∀ C d f, o ≠ .ins C d f) → (upd Ht x (.ins (He.ga K "Net") dx (nF7 p.a1 p.a2 p.a3 t1 t2 t3 a4))) c = some o := fun {c o} e m => by
      rw [upd_ne (fun ec => by rw [ec, xT] at e; exact m _ _ _ (Option.some.inj e).symm)]
      exact e
    have alU : All2 (PairS (upd Ht x (.ins (He.ga K "Net") dx (nF7 p.a1 p.a2 p.a3 t1 t2 t3 a4)))) (bs.map V.ref) fin.os := al7.mono fun _ _ ⟨c, e, y⟩ => ⟨c, e, nex (sT _ _ y) (fun _ _ _ => nofun)⟩
    have tgU : TgtAt (upd Ht x (.ins (He.ga K "Net") dx (nF7 p.a1 p.a2 p.a3 t1 t2 t3 a4))) a4 (fin.hs.map Prod.fst) fin.os := by
      obtain ⟨ts, g1, g2⟩ := tg
      exact ⟨ts, nex g1 (fun _ _ _ => nofun), g2.mono fun u n y => nex (show Ht u = some (.tup ((goalsOf fin.os n).map V.str)) from y) (fun _ _ _ => nofun)⟩
    rw [show putF "_targets" (.ref a4) (nF6 p.a1 p.a2 p.a3 t1 t2 t3) = nF7 p.a1 p.a2 p.a3 t1 t2 t3 a4 from rfl]
    generalize upd Ht x (.ins (He.ga K "Net") dx (nF7 p.a1 p.a2 p.a3 t1 t2 t3 a4)) = HU at hpT xU frsU t1U t2U t3U alU tgU ⊢
    obtain ⟨dy7, q07⟩ := hpT.at_
    -- text
    refine ⟨_, rfl, p.x, _, dy7, _, _, rfl, q07, Z.cl, Z.n1, pf1, _, rfl, p.x, _, dy7, _, _, rfl, q07, Z.cl, Z.n2, pf2, _, rfl, p.x, _, dy7, _, _, rfl, q07, Z.cl, Z.n3, pf3, _, rfl, x, _, dx, _, _, rfl, xU, Nt.cl, Nt.n6, nf7_rou, ?_⟩
    refine ⟨p.a1, p.a2, p.a3, t3, fin, _, rfl, hpT.o, hpT.h, hpT.r, t3U, alU, rd.po, fun H8 s8 => ?_⟩
    have x8 := s8 _ _ xU
    refine ⟨_, rfl, x, _, dx, _, rfl, x8, Nt.cl, Nt.n7, (by show 7 < 1000; decide), ?_⟩
    have hp9 := (hpT.same s8).put (fs' := nFs p.a1 p.a2 p.a3 t1 t2 t3 a4 (Txt.join "\n" (linesS fin))) x8 nx
    refine k _ (fun c o e n => by rw [upd_ne n]; exact s8 _ _ (frsU c o e n)) ⟨dx, p.a1, p.a2, p.a3, t1, t2, t3, a4, bs.map V.ref, upd_same, hp9.o, hp9.h, hp9.r, ?_, ?_, ?_, alU.mono fun _ _ ⟨c, e, y⟩ => ⟨c, e, ?_⟩, ?_⟩
    · rw [upd_ne n1]; exact s8 _ _ t1U
    · rw [upd_ne n2]; exact s8 _ _ t2U
    · rw [upd_ne n3]; exact s8 _ _ t3U
    · obtain ⟨ts, g1, g2⟩ := tgU
      refine ⟨ts, ?_, g2.mono fun _ _ y => ?_⟩
      · rw [upd_ne (fun ec => by rw [ec, xU] at g1; cases g1)]
        exact s8 _ _ g1
      · have y : HU _ = some _ := y
        show upd _ _ _ _ = some _
        rw [upd_ne (fun ec => by rw [ec, xU] at y; cases y)]
        exact s8 _ _ y
    · rw [upd_ne (fun ec => by rw [ec, xU] at y; cases y)]
      exact s8 _ _ y
end
end Wd
end
section
set_option Elab.async false
set_option linter.all false
set_option maxRecDepth 100000
set_option maxHeartbeats 1000000
namespace Wd
open PySem PySem.Spec PyProof.Rows L2 Wt TL NumText
/-- looked up in a list of pairs -/
def getS {β : Type} (zs : List (Str × β)) (k : Str) : Option β := (zs.find? fun z => decide (z.1 = k)).map Prod.snd
theorem kd_val {β : Type} {g : β → V} : ∀ {zs : List (Str × β)} {k : Str}, valV (zs.map fun z => ((Sum.inr z.1 : Key), g z.2)) (.inr k) = (getS zs k).map g
  | [], _ => rfl
  | z :: zs, k => by
    rw [List.map_cons]
    unfold getS
    rw [List.find?_cons]
    by_cases h : z.1 = k
    · rw [valV_pos (congrArg Sum.inr h), decide_eq_true h]
      rfl
    · rw [valV_neg fun q => h (Sum.inr.inj q), decide_eq_false h]
      exact kd_val
theorem nf_none {a1 a2 a3 t1 t2 t3 a4 : Addr} {z m : Str} (h : m ∉ (["_offsets", "_homes", "_rules", "zones", "programs", "routes", "_targets", "text"] : List Str)) : (nFs a1 a2 a3 t1 t2 t3 a4 z).lookup m = none := by
  simp only [List.mem_cons, List.not_mem_nil, or_false, not_or] at h
  obtain ⟨h1, h2, h3, h4, h5, h6, h7, h8⟩ := h
  unfold nFs nF7 nF6 nF3
  rw [lookup_putF, if_neg h8, lookup_putF, if_neg h7, lookup_putF, if_neg h6, lookup_putF, if_neg h5, lookup_putF, if_neg h4, lookup_putF, if_neg h3, lookup_putF, if_neg h2, lookup_putF, if_neg h1]
  rfl
def spNeedZ (C : Addr) : Sp := fun vs H Q _ => ∃ (x : Addr) (s : PSt) (z : Str) (o : Int), vs = [.ref x, .str z] ∧ NetAt C x H s ∧ getS s.zs z = some o ∧ Q .non H
def spNeedP (C : Addr) : Sp := fun vs H Q _ => ∃ (x : Addr) (s : PSt) (p h : Str), vs = [.ref x, .str p] ∧ NetAt C x H s ∧ getS s.hs p = some h ∧ Q .non H
def spNeedK : Sp := fun vs H Q _ => ∃ k : Str, vs = [.str k] ∧ k ∈ KS ∧ Q .non H
def spOffOf (C : Addr) : Sp := fun vs H Q _ => ∃ (x : Addr) (s : PSt) (z : Str) (o : Int), vs = [.ref x, .str z] ∧ NetAt C x H s ∧ getS s.zs z = some o ∧ Q (.int o) H
def spHomeOf (C : Addr) : Sp := fun vs H Q _ => ∃ (x : Addr) (s : PSt) (p h : Str), vs = [.ref x, .str p] ∧ NetAt C x H s ∧ getS s.hs p = some h ∧ Q (.str h) H
def spRuleOf (C : Addr) : Sp := fun vs H Q _ => ∃ (x : Addr) (s : PSt) (p h k : Str), vs = [.ref x, .str p, .str k] ∧ NetAt C x H s ∧ getS s.hs p = some h ∧ k ∈ KS ∧ ∀ H', Same H H' → Q (.str (ruleS s.rs p k)) H'
section
variable {P : Program} {w : World} {K : PySem.W.Frag} {mg : Str → Option Value} {base : Heap} {f : Addr} {fd : FuncData}
theorem scNeed_zone : FnScope ["self", "zone"] ["self", "zone"] (defScope (inClass (top i_Net) j_Net__need_zone)) := ⟨rfl, rfl, rfl, by decide +kernel, rfl, by decide +kernel, by decide +kernel⟩
theorem ok_needZ (F : FunD K "_need_zone" "Net._need_zone" (defArgs (inClass (top i_Net) j_Net__need_zone)) (defBody (inClass (top i_Net) j_Net__need_zone)) (defScope (inClass (top i_Net) j_Net__need_zone)) [] [] f fd) (T : Tx K mg) (Nt : Tn K mg) :
    FnOk P w K mg base CX0 1 f fd ["self", "zone"] (spNeedZ (He.ga K "Net")) := by
  refine F.ok scNeed_zone (fun vs H Q E h => ?_) (fun cdv A outer s H vs Q E hr h => ?_)
  · obtain ⟨x, st, z, o, rfl, _⟩ := h
    rfl
  · obtain ⟨x, st, z, o, rfl, hN, hz, k⟩ := h
    have hu := hu_of hr
    refine ⟨_, PSs.nox (pss_one (ps_if (PW.pt (pw_or (pt_not (pt_val (pe_callB call_isi (by rfl) T.isinstance (by decide +kernel) (pa_cons (pv 1) (pa_cons (pe_bltn (v := .ty "str") (by rfl) T.str (by decide +kernel) rfl) pa_nil))))) (pw_or1 (pt_cmp (pc_dnotin hu (pv 1) (pe_fld (pv 0) rfl)))))) (pss_one ps_never) pss_nil)), ?_⟩
    obtain ⟨dx, a1, a2, a3, t1, t2, t3, a4, vo, q0, q1, q2, q3, q4, q5, q6, q7, q8⟩ := hN.at_
    have dg := DGet.k (k := Sum.inr z) q1
    rw [show valV (offD st.zs) (Sum.inr z) = some (.int o) from kd_val.trans (by rw [hz]; rfl)] at dg
    refine ⟨_, rfl, .str z, .ty "str", .type "str", .type "str", true, rfl, .ty _, .base (.str _), kit_ty (by decide +kernel), true, rfl, ifN rfl ?_⟩
    exact ⟨_, rfl, _, rfl, x, _, dx, _, _, rfl, q0, Nt.cl, Nt.n1, nf_off, a1, _, rfl, dg, _, rfl, ifN rfl k⟩
theorem scNeed_program : FnScope ["self", "p"] ["self", "p"] (defScope (inClass (top i_Net) j_Net__need_program)) := ⟨rfl, rfl, rfl, by decide +kernel, rfl, by decide +kernel, by decide +kernel⟩
theorem ok_needP (F : FunD K "_need_program" "Net._need_program" (defArgs (inClass (top i_Net) j_Net__need_program)) (defBody (inClass (top i_Net) j_Net__need_program)) (defScope (inClass (top i_Net) j_Net__need_program)) [] [] f fd) (T : Tx K mg) (Nt : Tn K mg) :
    FnOk P w K mg base CX0 1 f fd ["self", "p"] (spNeedP (He.ga K "Net")) := by
  refine F.ok scNeed_program (fun vs H Q E h => ?_) (fun cdv A outer s H vs Q E hr h => ?_)
  · obtain ⟨x, st, z, o, rfl, _⟩ := h
    rfl
  · obtain ⟨x, st, z, o, rfl, hN, hz, k⟩ := h
    have hu := hu_of hr
    refine ⟨_, PSs.nox (pss_one (ps_if (PW.pt (pw_or (pt_not (pt_val (pe_callB call_isi (by rfl) T.isinstance (by decide +kernel) (pa_cons (pv 1) (pa_cons (pe_bltn (v := .ty "str") (by rfl) T.str (by decide +kernel) rfl) pa_nil))))) (pw_or1 (pt_cmp (pc_dnotin hu (pv 1) (pe_fld (pv 0) rfl)))))) (pss_one ps_never) pss_nil)), ?_⟩
    obtain ⟨dx, a1, a2, a3, t1, t2, t3, a4, vo, q0, q1, q2, q3, q4, q5, q6, q7, q8⟩ := hN.at_
    have dg := DGet.k (k := Sum.inr z) q2
    rw [show valV (homD st.hs) (Sum.inr z) = some (.str o) from kd_val.trans (by rw [hz]; rfl)] at dg
    refine ⟨_, rfl, .str z, .ty "str", .type "str", .type "str", true, rfl, .ty _, .base (.str _), kit_ty (by decide +kernel), true, rfl, ifN rfl ?_⟩
    exact ⟨_, rfl, _, rfl, x, _, dx, _, _, rfl, q0, Nt.cl, Nt.n2, nf_hom, a2, _, rfl, dg, _, rfl, ifN rfl k⟩
structure DKind (P : Program) (w : World) (K : PySem.W.Frag) (mg : Str → Option Value) (base : Heap) : Prop where
  is_kind : Df P w K mg base CX0 1 "is_kind" ["value"] spIsk
structure MNet (P : Program) (w : World) (K : PySem.W.Frag) (mg : Str → Option Value) (base : Heap) : Prop where
  need_zone : Md P w K mg base (He.ga K "Net") CX0 1 "_need_zone" ["self", "zone"] (spNeedZ (He.ga K "Net"))
  need_program : Md P w K mg base (He.ga K "Net") CX0 1 "_need_program" ["self", "p"] (spNeedP (He.ga K "Net"))
theorem scOffset_of : FnScope ["self", "zone"] ["self", "zone"] (defScope (inClass (top i_Net) j_Net_offset_of)) := ⟨rfl, rfl, rfl, by decide +kernel, rfl, by decide +kernel, by decide +kernel⟩
theorem ok_offOf (F : FunD K "offset_of" "Net.offset_of" (defArgs (inClass (top i_Net) j_Net_offset_of)) (defBody (inClass (top i_Net) j_Net_offset_of)) (defScope (inClass (top i_Net) j_Net_offset_of)) [] [] f fd) (Nt : Tn K mg) (M : MNet P w K mg base) :
    FnOk P w K mg base CX0 2 f fd ["self", "zone"] (spOffOf (He.ga K "Net")) := by
  refine F.ok scOffset_of (fun vs H Q E h => ?_) (fun cdv A outer s H vs Q E hr h => ?_)
  · obtain ⟨x, st, z, o, rfl, _⟩ := h
    rfl
  · obtain ⟨x, st, z, o, rfl, hN, hz, k⟩ := h
    have hu := hu_of hr
    refine ⟨_, PSs.nox (pss_cons (ps_expr (pe_md M.need_zone (pv 0) Nt.cl (hr.mono (by decide)) pass0 (pa_cons (pv 1) pa_nil)))
        (pss_one (ps_ret (pe_dget hu (pe_fld (pv 0) rfl) (pv 1) (fun _ _ => rfl))))), ?_⟩
    obtain ⟨dx, a1, a2, a3, t1, t2, t3, a4, vo, q0, q1, q2, q3, q4, q5, q6, q7, q8⟩ := hN.at_
    have dg := DGet.k (k := Sum.inr z) q1
    rw [show valV (offD st.zs) (Sum.inr z) = some (.int o) from kd_val.trans (by rw [hz]; rfl)] at dg
    refine ⟨_, rfl, x, dx, _, rfl, q0, nf_none (by decide +kernel), _, rfl, x, st, z, o, rfl, hN, hz, ?_⟩
    exact ⟨_, rfl, x, _, dx, _, _, rfl, q0, Nt.cl, Nt.n1, nf_off, _, rfl, a1, _, rfl, dg, k⟩
theorem scHome_of : FnScope ["self", "p"] ["self", "p"] (defScope (inClass (top i_Net) j_Net_home_of)) := ⟨rfl, rfl, rfl, by decide +kernel, rfl, by decide +kernel, by decide +kernel⟩
theorem ok_homeOf (F : FunD K "home_of" "Net.home_of" (defArgs (inClass (top i_Net) j_Net_home_of)) (defBody (inClass (top i_Net) j_Net_home_of)) (defScope (inClass (top i_Net) j_Net_home_of)) [] [] f fd) (Nt : Tn K mg) (M : MNet P w K mg base) :
    FnOk P w K mg base CX0 2 f fd ["self", "p"] (spHomeOf (He.ga K "Net")) := by
  refine F.ok scHome_of (fun vs H Q E h => ?_) (fun cdv A outer s H vs Q E hr h => ?_)
  · obtain ⟨x, st, z, o, rfl, _⟩ := h
    rfl
  · obtain ⟨x, st, z, o, rfl, hN, hz, k⟩ := h
    have hu := hu_of hr
    refine ⟨_, PSs.nox (pss_cons (ps_expr (pe_md M.need_program (pv 0) Nt.cl (hr.mono (by decide)) pass0 (pa_cons (pv 1) pa_nil)))
        (pss_one (ps_ret (pe_dget hu (pe_fld (pv 0) rfl) (pv 1) (fun _ _ => rfl))))), ?_⟩
    obtain ⟨dx, a1, a2, a3, t1, t2, t3, a4, vo, q0, q1, q2, q3, q4, q5, q6, q7, q8⟩ := hN.at_
    have dg := DGet.k (k := Sum.inr z) q2
    rw [show valV (homD st.hs) (Sum.inr z) = some (.str o) from kd_val.trans (by rw [hz]; rfl)] at dg
    refine ⟨_, rfl, x, dx, _, rfl, q0, nf_none (by decide +kernel), _, rfl, x, st, z, o, rfl, hN, hz, ?_⟩
    exact ⟨_, rfl, x, _, dx, _, _, rfl, q0, Nt.cl, Nt.n2, nf_hom, _, rfl, a2, _, rfl, dg, k⟩
structure DRuleOf (P : Program) (w : World) (K : PySem.W.Frag) (mg : Str → Option Value) (base : Heap) : Prop where
  need_kind : Df P w K mg base CX0 2 "_need_kind" ["kind"] spNeedK
end
end Wd
end
section
set_option Elab.async false
set_option linter.all false
set_option maxRecDepth 100000
set_option maxHeartbeats 1000000
namespace Wd
open PySem PySem.Spec PyProof.Rows L2 Wt TL NumText
def minS (k : Str) (v : Int) : Int := if k = "day" then 1440 * v else v
def valS (k : Str) (m : Int) : Int := if k = "day" then m / 1440 else m
def spMin : Sp := fun vs H Q _ => ∃ (k : Str) (v : Int), vs = [.str k, .int v] ∧ Q (.int (minS k v)) H
def spVal : Sp := fun vs H Q _ => ∃ (k : Str) (v : Int), vs = [.str k, .int v] ∧ Q (.int (valS k v)) H
/-- what a clock leads by -/
def leadS (k : Str) (oh oz : Int) : Int := if k = "fixed" then oh else if k = "zoned" then oh - oz else 0
/-- a program and a zone that the net knows -/
structure KnownP (s : PSt) (p h : Str) (oh : Int) : Prop where
  hs : getS s.hs p = some h
  zs : getS s.zs h = some oh
def KnownZ (s : PSt) (k : Str) (o : Option Str) (oz : Int) : Prop := k = "zoned" → ∃ z, o = some z ∧ getS s.zs z = some oz
def spLead (C : Addr) : Sp := fun vs H Q _ => ∃ (x : Addr) (s : PSt) (p h k : Str) (oh oz : Int) (o : Option Str), vs = [.ref x, .str p, .str k, oS o] ∧ NetAt C x H s ∧ KnownP s p h oh ∧ KnownZ s k o oz ∧ Q (.int (leadS k oh oz)) H
/-- the target and the minutes of a copy of a clock -/
def tamS (here there : Int) (k r : Str) : Str × Int :=
  if k = "float" then (r, if r = "fixed" then -here else 0) else if k = "fixed" then (r, here) else if r = "fixed" then ("fixed", -there) else
  if r = "as if" then ("zoned", 0) else if r = "moved" then ("zoned", here - there) else if r = "own day" then ("day", 0) else if r = "home day" then ("day", here - there) else
  if r = "own float" then ("float", 0) else ("float", here - there)
def spTam (C : Addr) : Sp := fun vs H Q _ => ∃ (x : Addr) (s : PSt) (h k r : Str) (oh oz : Int) (o : Option Str), vs = [.ref x, .str h, .str k, oS o, .str r] ∧ NetAt C x H s ∧ getS s.zs h = some oh ∧ KnownZ s k o oz ∧ k ∈ KS ∧ k ≠ "day" ∧ r ∈ rulesFor k ∧ r ≠ "keep" ∧
  ∀ t H', Same H H' → H t = none → H' t = some (.tup [.str (tamS oh oz k r).1, .int (tamS oh oz k r).2]) → Q (.ref t) H'
section
variable {P : Program} {w : World} {K : PySem.W.Frag} {mg : Str → Option Value} {base : Heap} {f : Addr} {fd : FuncData}
theorem scMinutes_of : FnScope ["kind", "value"] ["kind", "value"] (defScope (top i_minutes_of)) := ⟨rfl, rfl, rfl, by decide +kernel, rfl, by decide +kernel, by decide +kernel⟩
theorem ok_min (F : FnG K "minutes_of" i_minutes_of f fd) (T : Tx K mg) : FnOk P w K mg base CX0 1 f fd ["kind", "value"] spMin := by
  refine F.ok scMinutes_of (fun vs H Q E h => ?_) (fun cdv A outer s H vs Q E hr h => ?_)
  · obtain ⟨kd, v, rfl, _⟩ := h
    rfl
  · obtain ⟨kd, v, rfl, k⟩ := h
    obtain ⟨tD, hD⟩ := T.DAY
    refine ⟨_, PSs.nox (pss_one (ps_ret (pe_ifExp (pt_cmpR op_eq (pv 0) pe_str (nomark _)) (pe_op op_mul (pe_glob (v := .int 1440) rfl hD ⟨_, rfl⟩) (pv 1)) (pv 1)))), ?_⟩
    refine ⟨_, rfl, rfl, _, rfl, ifC (fun h => ?_) (fun h => ?_)⟩
    · have h : kd = "day" := V.str.inj h
      unfold minS at k
      rw [if_pos h] at k
      exact ⟨_, rfl, _, _, rfl, rfl, .inl ⟨by decide, by decide⟩, k⟩
    · have h : ¬ kd = "day" := fun z => h (congrArg V.str z)
      unfold minS at k
      rw [if_neg h] at k
      exact ⟨_, rfl, k⟩
structure MN (P : Program) (w : World) (K : PySem.W.Frag) (mg : Str → Option Value) (base : Heap) : Prop where
  offset_of : Md P w K mg base (He.ga K "Net") CX0 2 "offset_of" ["self", "zone"] (spOffOf (He.ga K "Net"))
  home_of : Md P w K mg base (He.ga K "Net") CX0 2 "home_of" ["self", "p"] (spHomeOf (He.ga K "Net"))
theorem scClock_lead : FnScope ["net", "p", "kind", "zone"] ["net", "p", "kind", "zone"] (defScope (top i_clock_lead)) := ⟨rfl, rfl, rfl, by decide +kernel, rfl, by decide +kernel, by decide +kernel⟩
theorem ok_lead (F : FnG K "clock_lead" i_clock_lead f fd) (Nt : Tn K mg) (M : MN P w K mg base) : FnOk P w K mg base CX0 3 f fd ["net", "p", "kind", "zone"] (spLead (He.ga K "Net")) := by
  refine F.ok scClock_lead (fun vs H Q E h => ?_) (fun cdv A outer s H vs Q E hr h => ?_)
  · obtain ⟨x, st, p, h, kd, oh, oz, o, rfl, _⟩ := h
    rfl
  · obtain ⟨x, st, p, h, kd, oh, oz, o, rfl, hN, hp, hz, k⟩ := h
    refine ⟨_, PSs.nox (pss_cons (ps_if (pt_cmpR op_eq (pv 2) pe_str (nomark _)) (pss_one (ps_ret (pe_md M.offset_of (pv 0) Nt.cl (hr.mono (by decide)) pass0 (pa_cons (pe_md M.home_of (pv 0) Nt.cl (hr.mono (by decide)) pass0 (pa_cons (pv 1) pa_nil)) pa_nil)))) pss_nil)
        (pss_cons (ps_if (pt_cmpR op_eq (pv 2) pe_str (nomark _)) (pss_one (ps_ret (pe_op op_sub (pe_md M.offset_of (pv 0) Nt.cl (hr.mono (by decide)) pass0 (pa_cons (pe_md M.home_of (pv 0) Nt.cl (hr.mono (by decide)) pass0 (pa_cons (pv 1) pa_nil)) pa_nil)) (pe_md M.offset_of (pv 0) Nt.cl (hr.mono (by decide)) pass0 (pa_cons (pv 3) pa_nil))))) pss_nil)
        (pss_one (ps_ret pe_int)))), ?_⟩
    obtain ⟨dx, a1, a2, a3, t1, t2, t3, a4, vo, q0, _⟩ := hN.at_
    have e1 : (nFs a1 a2 a3 t1 t2 t3 a4 (Txt.join "\n" (linesS st))).lookup ("offset_of" : Str) = none := nf_none (by decide +kernel)
    have e2 : (nFs a1 a2 a3 t1 t2 t3 a4 (Txt.join "\n" (linesS st))).lookup ("home_of" : Str) = none := nf_none (by decide +kernel)
    refine ⟨_, rfl, rfl, _, rfl, ifC (fun h1 => ?_) (fun h1 => ?_)⟩
    · have h1 : kd = "fixed" := V.str.inj h1
      have e : leadS kd oh oz = oh := by unfold leadS; rw [if_pos h1]
      rw [e] at k
      exact ⟨_, rfl, x, dx, _, rfl, q0, e1, _, rfl, x, dx, _, rfl, q0, e2, _, rfl, x, st, p, h, rfl, hN, hp.hs, x, st, h, oh, rfl, hN, hp.zs, k⟩
    have h1 : ¬ kd = "fixed" := fun z => h1 (congrArg V.str z)
    refine ⟨_, rfl, rfl, _, rfl, ifC (fun h2 => ?_) (fun h2 => ?_)⟩
    · have h2 : kd = "zoned" := V.str.inj h2
      obtain ⟨z, rfl, gz⟩ := hz h2
      have e : leadS kd oh oz = oh - oz := by unfold leadS; rw [if_neg h1, if_pos h2]
      rw [e] at k
      exact ⟨_, rfl, x, dx, _, rfl, q0, e1, _, rfl, x, dx, _, rfl, q0, e2, _, rfl, x, st, p, h, rfl, hN, hp.hs, x, st, h, oh, rfl, hN, hp.zs, _, rfl, x, dx, _, rfl, q0, e1, _, rfl, x, st, z, oz, rfl, hN, gz, _, _, rfl, rfl, k⟩
    · have h2 : ¬ kd = "zoned" := fun z => h2 (congrArg V.str z)
      have e : leadS kd oh oz = 0 := by unfold leadS; rw [if_neg h1, if_neg h2]
      rw [e] at k
      exact k
end
end Wd
end
section
set_option Elab.async false
set_option linter.all false
set_option maxRecDepth 100000
set_option maxHeartbeats 1000000
namespace Wd
open PySem PySem.Spec PyProof.Rows L2 Wt TL NumText
/-- what a copy by the rule r does: kind, zone, minutes, whether it rounds -/
inductive EffS (h : Str) (oh oz : Int) (k : Str) (o : Option Str) (r : Str) (en : Int) : Str → Option Str → Int → Bool → Prop
  | keep : r = "keep" → EffS h oh oz k o r en k o 0 false
  | day (t : Str) (b e : Int) : k = "day" → r ≠ "keep" → r = t ++ " " ++ strI b ++ " " ++ strI e → t ∈ (["float", "zoned", "fixed"] : List Str) → 0 ≤ b → b ≤ e → e ≤ 1439 →
      EffS h oh oz k o r en t (if t = "zoned" then some h else none) ((if en = 0 then b else e) - (if t = "fixed" then oh else 0)) (decide (t = "day"))
  | clock (t : Str) (m : Int) : k ≠ "day" → r ≠ "keep" → tamS oh oz k r = (t, m) → EffS h oh oz k o r en t (if t = "zoned" then some h else none) m (decide (t = "day"))
def spRCopy (C : Addr) : Sp := fun vs H Q _ => ∃ (x : Addr) (s : PSt) (q h k r : Str) (oh oz en : Int) (o : Option Str), vs = [.ref x, .str q, .str k, oS o, .int en, .str r] ∧ NetAt C x H s ∧ KnownP s q h oh ∧ KnownZ s k o oz ∧ k ∈ KS ∧ RuleD k r ∧ (en = 0 ∨ en = 1) ∧
  ∀ k' o' m rd t H', EffS h oh oz k o r en k' o' m rd → Same H H' → H t = none → H' t = some (.tup [.str k', oS o', .int m, .bl rd]) → Q (.ref t) H'
def spPCopy (C : Addr) : Sp := fun vs H Q _ => ∃ (x : Addr) (s : PSt) (q h k : Str) (oh oz en : Int) (o : Option Str), vs = [.ref x, .str q, .str k, oS o, .int en] ∧ NetAt C x H s ∧ KnownP s q h oh ∧ KnownZ s k o oz ∧ k ∈ KS ∧ RuleD k (ruleS s.rs q k) ∧ (en = 0 ∨ en = 1) ∧
  ∀ k' o' m rd t H', EffS h oh oz k o (ruleS s.rs q k) en k' o' m rd → Same H H' → H t = none → H' t = some (.tup [.str k', oS o', .int m, .bl rd]) → Q (.ref t) H'
section
variable {P : Program} {w : World} {K : PySem.W.Frag} {mg : Str → Option Value} {base : Heap} {f : Addr} {fd : FuncData}
structure DRCopy (P : Program) (w : World) (K : PySem.W.Frag) (mg : Str → Option Value) (base : Heap) : Prop where
  target_and_more : Df P w K mg base CX0 3 "_target_and_more" ["net", "home", "kind", "zone", "rule"] (spTam (He.ga K "Net"))
/-- by the rule of the program -/
structure DPCopy (P : Program) (w : World) (K : PySem.W.Frag) (mg : Str → Option Value) (base : Heap) : Prop where
  ruled_copy : Df P w K mg base CX0 4 "ruled_copy" ["net", "q", "kind", "zone", "end", "rule"] (spRCopy (He.ga K "Net"))
end
end Wd
end
section
set_option Elab.async false
set_option linter.all false
set_option maxRecDepth 100000
set_option maxHeartbeats 1000000
set_option pp.maxSteps 600
/-! A dict written with one entry whose key is a tuple in which None may stand. -/
namespace Wd
open PySem PySem.Spec PyProof.Rows L2
section
variable {prog : Program} {w : World} {K : Type} [DecidableEq K] {knd : HeapKind prog w K} {A : Around} {E : Value → Shared → Prop} {s : Shared} {env : Env}
theorem wpAny_Dict_walkO {keys : List (Option Expr)} {values : List Expr} {pos : Pos} {Q : Value → Shared → Prop} (hu : knd.room A)
    (hall : keys.all (·.isSome) = true) (hl : keys.length = values.length) (h0 : keys ≠ []) (hlen : keys.length ≤ 15)
    (h : wpAny (model prog w) A (evalPairs (pairTrees keys values env pos)) (fun vs s₁ => ∃ ps, CarriesH knd s₁.heap vs ps ∧ s₁.heap.DictOfH knd s.heap.objs.size [] ∧
      ∀ h' tk, h'.DictOfH knd s.heap.objs.size (storedAllH [] ps) → Heap.SameBut s.heap.objs.size s₁.heap h' → Q (.ref s.heap.objs.size) { s₁ with heap := h', toks := tk }) E
      { s with heap := s.heap.push { cls := .type "dict", data := .dict #[] } }) :
    wpAny (model prog w) A (eval (.Dict keys values pos) env) Q E s := by
  have hn := pairTrees_length keys values env pos hall hl
  have hne : pairTrees keys values env pos ≠ [] := by
    intro he
    rw [he] at hn
    exact h0 (List.length_eq_zero_iff.mp hn.symm)
  rw [arm_eval_Dict, zip_pairTrees keys values env pos hall hl, dictDisplay_pairs _ hne (by rw [hn]; omega)]
  exact wpAny_bind (wpAny_standAt (wpAny_bind (wpAny_subDictH (knd := knd) (Q := fun d s' => wpAny (model prog w) A (pure (Value.ref d)) Q E s') hu (by rw [hn]; exact hlen)
    (wpAny_mono h (fun vs s₁ h₁ => by obtain ⟨ps, hc, hm, hq⟩ := h₁; exact ⟨ps, hc, hm, fun h' tk a b => wpAny_pure (hq h' tk a b)⟩) fun _ _ e => e))))
end
section
variable {X : Cx} {k v : Expr} {tk tv : TE} {pos : Pos}
/-- {k: v}, k a tuple of texts, numbers, None; the new dict stands empty while the pair is made -/
def tDisp1O (P : Program) (w : World) (tk tv : TE) : TE := fun σ H Q => ∀ p, H p = none → tPairs [(tk, tv)] σ (upd H p (odO P w p [])) fun ps H3 => H3 p = some (odO P w p []) ∧ ∃ b ks z, ps = [(.ref b, z)] ∧ H3 b = some (.tup (ks.map oKV)) ∧ Q (.ref p) (upd H3 p (odO P w p [(ks, b, z)]))
theorem pe_disp1O (hu : X.A.units + 1 < cLine) (hk : PE X k tk) (hv : PE X v tv) : PE X (.Dict [some k] [v] pos) (tDisp1O X.prog X.w tk tv) := by
  refine ⟨fun pins s σ H Q I q => ?_⟩
  have hn := I.hok.fresh (Nat.le_refl s.heap.objs.size)
  have hsys : (s.heap.objs.size == sysModules) = false := beq_eq_false_iff_ne.mpr (Ne.symm (Nat.ne_of_lt I.big))
  have I1 := I.laid (a := s.heap.objs.size) (o := odO X.prog X.w s.heap.objs.size []) (h' := s.heap.push { cls := .type "dict", data := .dict #[] }) (t' := s.toks) (fun _ _ q => Heap.get?_push_of_some _ q) (Nat.le_refl _)
    (od_ok ⟨hsys, Nat.zero_le _, [], .nil, _, #[], 0, Heap.get?_push_size _ rfl, ⟨rfl, rfl, rfl⟩, rfl, rfl, List.nodup_nil⟩)
  refine wpAny_Dict_walkO (knd := tupleKind (noneKind X.prog X.w)) (show X.A.units < cLine by omega) rfl rfl (by simp) (by simp) (thn ((pps_cons hk hv pps_nil).run pins _ σ _ _ I1 (q _ hn)) fun ws s2 ⟨ps, H2, I2, rel, e, b, ks, z, ep, hb, q2⟩ => ?_)
  subst ep
  cases rel with
  | @cons p1 w1 ps1 ws1 h1 t1 =>
  cases t1
  obtain ⟨k1, v1⟩ := w1
  obtain ⟨e1, e2⟩ := h1
  obtain rfl : k1 = Value.ref b := e1
  have d0 : OD X.prog X.w H2 s.heap.objs.size [] := ⟨e, fun x hx => by cases hx⟩
  obtain ⟨_, _, xs, rel0, dd0⟩ := d0.of I2.hok
  cases rel0
  refine ⟨[(ks, b, v1)], ⟨rfl, rfl, oKey_of I2.hok hb, trivial⟩, dd0, fun h' tk dd' hs' => ⟨.ref s.heap.objs.size, _, d_write (t' := tk) I2 (by rw [e]; exact True.intro) hs' ?_ (od_ok ?_), rfl, q2⟩⟩
  · obtain ⟨o, _, _, ho, _⟩ := dd'
    exact ⟨o, ho⟩
  · obtain ⟨o, es, ep, ho, h2, h3, h4, _, h5⟩ := dd'
    have e0 : storedAllH [] [(ks, b, v1)] = [(ks, b, v1)] := by
      show storedH [] ks b v1 = _
      rw [storedH_new rfl]
      rfl
    rw [e0] at h4 h5
    exact ⟨hsys, by show 1 ≤ sizeLine; decide, _, .cons ⟨rfl, rfl, e2⟩ .nil, o, es, ep, ho, h2, h3, h4, h5⟩
/-- the same, the program and the world told -/
theorem pe_disp1OP {P : Program} {w : World} (hp : X.prog = P) (hw : X.w = w) (hu : X.A.units + 1 < cLine) (hk : PE X k tk) (hv : PE X v tv) : PE X (.Dict [some k] [v] pos) (tDisp1O P w tk tv) := by
  subst hp hw
  exact pe_disp1O hu hk hv
end
section
variable {X : Cx} {o i value : Expr} {td ty tv : TE} {pos pos' : Pos} {P : Program} {w : World}
theorem pc_onotinP (hp : X.prog = P) (hw : X.w = w) (hu : X.A.units + 1 < cLine) (hi : PE X i ty) (ho : PE X o td) : L2.PC X .NotIn i o (tONotIn P w ty td) := by
  subst hp hw
  exact pc_onotin hu hi ho
theorem pe_ogetP (hp : X.prog = P) (hw : X.w = w) (hu : X.A.units + 1 < cLine) (ho : PE X o td) (hi : PE X i ty) (hs : NoSl i) : PE X (.Subscript o i pos) (tOGet P w td ty) := by
  subst hp hw
  exact pe_oget hu ho hi hs
theorem ps_oputP (hp : X.prog = P) (hw : X.w = w) (hu : X.A.units + 1 < cLine) (ho : PE X o td) (hi : PE X i ty) (hv : PE X value tv) (hs : swapsWith value (some (.Subscript o i pos')) pos.line X.env = pure false) :
    PS X (.Assign [.Subscript o i pos'] value pos) (sOPut P w td ty tv) := by
  subst hp hw
  exact ps_oput hu ho hi hv hs
end
end Wd
end
section
set_option Elab.async false
set_option linter.all false
set_option maxRecDepth 100000
set_option maxHeartbeats 1000000
/-! enumerate(tuple). -/
namespace Wd
open PySem PySem.Spec PyProof.Rows L2
set_option maxHeartbeats 1000000 in
theorem meets_enumerate_newB1 {v : Value} {o : Obj} {H : Heap → Prop} (B : Begins v o H) :
    Meets (Builtin.«enumerate.__new__» ⟨[.type "enumerate", v], []⟩) (fun _ R s => H s.heap ∧
      R (.ok (.ret (.ref (s.heap.push o).objs.size))) { s with heap := (s.heap.push o).push { cls := .type "enumerate", data := .fields #[.none, .bool false, .ref s.heap.objs.size, rawInt 0, .none, .none] } }) :=
  .of_wp fun prog w A R s h => by
    obtain ⟨hp, g, d, tk, os⟩ := s; obtain ⟨h1, h⟩ := h
    have hsub := sub_enumerate
    have q1 : ∀ {A' : Around} {E : Value → Shared → Prop} {Q : Value → Shared → Prop}, Q (.ref hp.objs.size) ⟨hp.push o, g, d, tk, os⟩ → wpAny (model prog w) A' (pyIter v) Q E ⟨hp, g, d, tk, os⟩ :=
      fun q => B.iter prog w _ _ ⟨hp, g, d, tk, os⟩ _ h1 q
    wp_walk using q1
    refine wpAny_stack_any fun st => wpAny_pure ?_
    split
    · rename_i c _ _ _ _ _
      cases (c == Value.type "enumerate")
      · wp_walk using q1
        exact ⟨_, rfl, h⟩
      · wp_walk using q1
        exact ⟨_, rfl, h⟩
    · wp_walk using q1
      exact ⟨_, rfl, h⟩
section
variable {prog : Program} {w : World} {A : Around} {E : Value → Shared → Prop} {s : Shared}
theorem enum_begins1 {v : Value} {o : Obj} {H : Heap → Prop} {Q : Value → Shared → Prop} (B : Begins v o H) (h1 : H s.heap)
    (h : ∀ h', IsEnum h' (s.heap.objs.size + 1) s.heap.objs.size 0 .none → h'.get? s.heap.objs.size = some o → h'.objs.size = s.heap.objs.size + 2 →
      (∀ b o, s.heap.get? b = some o → h'.get? b = some o) → Q (.ref (s.heap.objs.size + 1)) { s with heap := h' }) :
    wpAny (model prog w) A (call (.type "enumerate") [v]) Q E s := by
  refine callType_new F.called_enumerate (by decide) (F.typeCall_enumerate_1 _) (F.newCall_enumerate_1 _) (fun obj => F.args_object_init_2 obj _) F.entry_enumerate_new
    (meets_enumerate_newB1 B) ⟨h1, ?_⟩
  have hz : (s.heap.push o).objs.size = s.heap.objs.size + 1 := Heap.size_push ..
  show _ ∧ _
  rw [hz]
  have he : IsEnum ((s.heap.push o).push { cls := .type "enumerate", data := .fields #[.none, .bool false, .ref s.heap.objs.size, rawInt 0, .none, .none] }) (s.heap.objs.size + 1) s.heap.objs.size 0 .none := by
    have := Heap.get?_push_size (s.heap.push o) (o := { cls := .type "enumerate", data := .fields #[.none, .bool false, .ref s.heap.objs.size, rawInt 0, .none, .none] }) rfl
    rw [hz] at this; exact this
  refine ⟨⟨_, he, rfl⟩, h _ he (Heap.get?_push_of_some _ (Heap.get?_push_size _ B.free)) (by rw [Heap.size_push, hz]) fun b o x => Heap.get?_push_of_some _ (Heap.get?_push_of_some _ x)⟩
theorem enum_endT {e it l : Addr} {i : Nat} {c : Int} {items : Array Value} {old : Value} {Q : Option Value → Shared → Prop} (hh : A.handled = none)
    (he : IsEnum s.heap e it c old) (hit : s.heap.IsTupleIter it l i) (hl : s.heap.IsTuple l items) (hx : items[i]? = none)
    (hQ : ∀ h', Heap.ExtBut it s.heap h' → Q none { s with heap := h' }) : wpAny (model prog w) A (pyNext (.ref e)) Q E s := by
  have hT : s.TypeIs (.ref e) "enumerate" := ⟨_, he, rfl⟩
  unfold pyNext
  refine wpAny_bind (wpAny_attempt (wpAny_callSpecial?_slot (name := Str.ofString "__next__") hT F.slot_enumerate_next
    (wpAny_call_entry F.slot_enumerate_next hT F.entry_enumerate_next ?_ (F.args_enumerate_next_1 _))))
  show wpAny _ _ (field (.ref e) 2 >>= _) _ _ _
  refine wpAny_bind (wpAny_field he rfl (x := .ref it) rfl ?_)
  refine wpAny_bind (wpAny_nextOf_tuple_end hh hit hl hx fun h' x he' hx' => ?_)
  obtain ⟨o, ho, hc⟩ := hx'
  refine wpAny_bind (wpAny_isInstance (T := "StopIteration") (b := true) ⟨o, ho, hc⟩ isSubtype_stop ?_)
  exact wpAny_pure (hQ _ he')
end
/-- the tuple at a, each item in a new pair -/
def IteT (K : PySem.W.Frag) (a : Addr) : It :=
  ⟨fun i H => ∃ (xs : List V) (x : V), SqT K H a xs ∧ xs[i]? = some x, fun i H v H' => ∃ T x, v = .ref T ∧ H T = none ∧ H' = upd H T (.tup [.int (i : Nat), x]) ∧ ∀ xs, SqT K H a xs → xs[i]? = some x, fun i H => ∃ xs : List V, SqT K H a xs ∧ xs.length ≤ i⟩
theorem turn_enumT {P : Program} {w : World} {K : PySem.W.Frag} {elts : List Expr} {kk : Nat} {tpos : Pos} (a e it : Addr) :
    Turn P w K (.Tuple elts kk tpos) (IteT K a) [e, it] e (fun i h => (∃ old, IsEnum h e it ((i : Nat) : Int) old) ∧ h.IsTupleIter it a i ∧ e ≠ it) where
  mem := by simp
  obj := fun i h st b hb => by
    obtain ⟨⟨old, he⟩, ⟨o, ho, hc, hd⟩, _⟩ := st
    have e' : b = e ∨ b = it := by simpa using hb
    rcases e' with z | z
    · rw [z]; exact ⟨_, he, fun v q => nomatch q⟩
    · rw [z]; exact ⟨o, ho, fun v q => by rw [hd] at q; cases q⟩
  keep := fun i h h' st k => let ⟨⟨old, he⟩, hi, hne⟩ := st; ⟨⟨old, k e (by simp) _ he⟩, hi.at fun o q => k it (by simp) o q, hne⟩
  item := by
    intro X hP hw hK hc i pins s σ H E I hf st hg
    subst hP hw hK
    obtain ⟨⟨old, he⟩, hit, hne⟩ := st
    obtain ⟨xs, x, hq, hx⟩ := hg
    obtain ⟨its, rv, p, hz⟩ := I.tuple hq
    have pT : s.heap.IsTuple a its.toArray := p
    obtain ⟨u, hu, ru⟩ := rv.get hx
    have hel : e < s.heap.objs.size := Heap.lt_size he
    have hil : it < s.heap.objs.size := by obtain ⟨_, q, _⟩ := hit; exact Heap.lt_size q
    have hal : a ≠ it := by
      rintro rfl
      obtain ⟨o, q, qc, qd⟩ := hit
      obtain ⟨o2, q2, c2, n2, d2⟩ := pT
      rw [q] at q2
      obtain rfl := Option.some.inj q2
      exact absurd (Value.type.inj (qc.symm.trans c2)) (by decide)
    have hae : e ≠ a := by
      rintro rfl
      obtain ⟨o2, q2, c2, m, d2⟩ := pT
      rw [show s.heap.get? e = _ from he] at q2
      obtain rfl := Option.some.inj q2
      cases d2
    have hlt : i < its.toArray.size := by
      have := (List.getElem?_eq_some_iff.mp hu).1
      simpa using this
    refine wpAny_pyNext_enum_itemC (Draws.tuple (A := X.A.in1) (I.ok.hd hc) it a hal its.toArray) he ⟨hit, pT⟩ hlt hne (by simp [hne, hae]) fun y h' tk hy ho hst hT hsz hk => ?_
    obtain ⟨hit', _⟩ := hst
    obtain rfl : u = y := by
      have h1 : its[i]? = some y := by simpa using hy
      rw [hu] at h1
      exact Option.some.inj h1
    refine ⟨_, rfl, wpAny_letOwnedTupleGo_enum (s := { s with heap := h', toks := tk + 1 }) ho fun h'' he' sb => ?_⟩
    have hT2 : h''.get? s.heap.objs.size = some { cls := .type "tuple", data := .seq #[.int (i : Int) tk, u] } := (sb.2 _ (Nat.ne_of_gt hel)).trans hT
    have new : ObjOk X.prog X.w (upd H s.heap.objs.size (.tup [.int (i : Nat), x])) h'' s.heap.objs.size (.tup [.int (i : Nat), x]) :=
      ⟨by show 2 ≤ sizeLine; decide, [.int (i : Int) tk, u], .cons ⟨_, rfl⟩ (.cons ru .nil), ⟨_, hT2, rfl, _, rfl⟩⟩
    have I1 : Inv X pins σ (upd H s.heap.objs.size (.tup [.int (i : Nat), x])) { s with heap := h'', toks := tk + 1 } :=
      I.turnedNew (ch := [e, it]) (fun b ob hb q => (sb.2 b (fun z => hb (by simp [z]))).trans (hk b ob (fun z => hb (by simp [z])) (fun z => hb (by simp [z])) q)) hf (Nat.le_refl _) new
    refine ⟨.ref s.heap.objs.size, _, I1, rfl, ⟨_, x, rfl, I.hok.fresh (Nat.le_refl _), rfl, fun ys hy => by rw [I.tuple_inj hy hq]; exact hx⟩, ⟨⟨u, ?_⟩, hit'.at fun o q => (sb.2 it (Ne.symm hne)).trans q, hne⟩, fun b hb => ?_⟩
    · have e1 : ((i + 1 : Nat) : Int) = (i : Int) + 1 := by omega
      rw [e1]; exact he'
    · have hb' : b < s.heap.objs.size := by
        have e' : b = e ∨ b = it := by simpa using hb
        rcases e' with z | z
        · rw [z]; exact hel
        · rw [z]; exact hil
      rw [upd_ne (Nat.ne_of_lt hb')]
      exact (hf b hb).1
  done := by
    intro X hP hw hK hc i pins s σ H E I hf st hg
    subst hP hw hK
    obtain ⟨⟨old, he⟩, hit, hne⟩ := st
    obtain ⟨xs, hq, hx⟩ := hg
    obtain ⟨its, rv, p, hz⟩ := I.tuple hq
    have pT : s.heap.IsTuple a its.toArray := p
    obtain ⟨f0, f1, f2, f3, f4, f5⟩ := hf it (by simp)
    have hl := rv.length
    exact enum_endT (I.ok.hd hc) he hit pT (by simp; omega) fun h' eb => ⟨rfl, I.turned (t' := s.toks) (fun b o hb q => eb b o hb q) f0 f1 f3 f4 f5⟩
  self := fun A i s Q E st h => let ⟨⟨_, he⟩, _⟩ := st; wpAny_pyIter_enum he h
def iEnumT (K : PySem.W.Frag) (ta : TA) : TI := fun σ H R => ta σ H fun vs H1 => ∃ a xs, vs = [.ref a] ∧ SqT K H1 a xs ∧ R (IteT K a) H1
theorem pi_enumT {X : Cx} {e : Expr} {ta : TA} {p pos tpos : Pos} {elts : List Expr} {kk : Nat} (hg : Gl X "enumerate") (hm : X.mg "enumerate" = none) (ha : PA X [e] ta) (hs : starEach [e] X.env = [(false, eval e X.env)] := by rfl) :
    PI X (.Tuple elts kk tpos) (.Call (.Name "enumerate" p) [e] [] pos) (iEnumT X.K ta) := by
  refine ⟨fun pins s σ H R I h => ?_⟩
  refine Call_ (ld_blt I hg hm boot_enumerate (PyProof.Rows.callWith_type1 (thn (ha.run pos pins s σ H _ I h) fun us s1 ⟨vs, H1, I1, r1, q1⟩ => ?_) hs rfl))
  obtain ⟨a, xs, ex, hq, q⟩ := q1
  subst ex
  cases r1 with
  | cons r rr =>
    cases rr
    cases r
    obtain ⟨its, rv, p', hz⟩ := I1.tuple hq
    have pT : s1.heap.IsTuple a its.toArray := p'
    refine enum_begins1 (begins_tuple a its.toArray) pT fun h' he hit hsz hk => wpAny_pyIter_enum he ?_
    have I2 : Inv X pins σ H1 { s1 with heap := h' } := I1.kept (t' := s1.toks) hk
    refine ⟨s1.heap.objs.size + 1, [s1.heap.objs.size + 1, s1.heap.objs.size], _, _, H1, rfl, I2, turn_enumT a (s1.heap.objs.size + 1) s1.heap.objs.size, ⟨⟨.none, he⟩, ⟨_, hit, rfl, rfl⟩, Nat.succ_ne_self _⟩, fun b hb => ?_, q⟩
    have e' : b = s1.heap.objs.size + 1 ∨ b = s1.heap.objs.size := by simpa using hb
    have hle : s1.heap.objs.size ≤ b := by
      rcases e' with z | z
      · rw [z]; exact Nat.le_add_right _ _
      · rw [z]; exact Nat.le_refl _
    exact I1.fpOk hle (I1.hok.fresh hle)
theorem walk_enumT {K : PySem.W.Frag} {a : Addr} {xs : List V} : Walk (IteT K a) xs.length (fun H => SqT K H a xs) (YPair (fun i => some (.int (i : Nat))) (fun i => xs[i]?)) := by
  refine ⟨fun i _ hi q => ⟨xs, xs[i], q, by simp [hi]⟩, fun _ q => ⟨xs, q, Nat.le_refl _⟩, fun i H v H' _ q y => ?_⟩
  obtain ⟨T, x, h1, h2, h3, h4⟩ := y
  exact ⟨T, .int (i : Nat), x, h1, h2, h3, rfl, h4 xs q⟩
end Wd
end
section
set_option Elab.async false
set_option linter.all false
set_option maxRecDepth 100000
set_option maxHeartbeats 1000000
/-! enumerate of a list or a tuple; t + u for any tuples; any slice of a tuple. -/
namespace Wd
open PySem PySem.Spec PyProof.Rows L2
/-- a list or a tuple, as it stands -/
def SeqH (H : Hp) (a : Addr) (xs : List V) : Prop := H a = some (.lst xs) ∨ H a = some (.tup xs)
theorem SeqH.same {H H' : Hp} {a : Addr} {xs : List V} (h : SeqH H a xs) (s : Same H H') : SeqH H' a xs := h.imp (s _ _) (s _ _)
def iEnumU (K : PySem.W.Frag) (ta : TA) : TI := fun σ H R => ta σ H fun vs H1 => ∃ a xs, vs = [.ref a] ∧ SeqH H1 a xs ∧ ∀ (J : It) (G : Hp → Prop), Walk J xs.length G (YPair (fun i => some (.int (i : Nat))) (fun i => xs[i]?)) → (∀ H', Same H1 H' → G H') → R J H1
theorem pi_enumU {X : Cx} {e : Expr} {ta : TA} {p pos tpos : Pos} {elts : List Expr} {kk : Nat} (hg : Gl X "enumerate") (hm : X.mg "enumerate" = none) (ha : PA X [e] ta) (hs : starEach [e] X.env = [(false, eval e X.env)] := by rfl) :
    PI X (.Tuple elts kk tpos) (.Call (.Name "enumerate" p) [e] [] pos) (iEnumU X.K ta) := by
  refine ⟨fun pins s σ H R I h => ?_⟩
  refine Call_ (ld_blt I hg hm boot_enumerate (PyProof.Rows.callWith_type1 (thn (ha.run pos pins s σ H _ I h) fun us s1 ⟨vs, H1, I1, r1, q1⟩ => ?_) hs rfl))
  obtain ⟨a, xs, ex, hq, q⟩ := q1
  subst ex
  cases r1 with
  | cons r rr =>
    cases rr
    cases r
    have e2 : ∀ {b : Addr}, b ∈ [s1.heap.objs.size + 1, s1.heap.objs.size] → s1.heap.objs.size ≤ b := fun {b} hb => by
      have e' : b = s1.heap.objs.size + 1 ∨ b = s1.heap.objs.size := by simpa using hb
      rcases e' with z | z
      · rw [z]; exact Nat.le_add_right _ _
      · rw [z]; exact Nat.le_refl _
    rcases hq with hq | hq
    · replace q := q _ _ walk_enum fun H' s => SqL.of (K := X.K) (s _ _ hq)
      replace hq := SqL.of (K := X.K) hq
      obtain ⟨its, rv, p', hz⟩ := I1.list hq
      refine call_enumerate_list p'.isList fun h' he hit hsz hk => wpAny_pyIter_enum he ?_
      have I2 : Inv X pins σ H1 { s1 with heap := h' } := I1.kept (t' := s1.toks) hk
      exact ⟨s1.heap.objs.size + 1, [s1.heap.objs.size + 1, s1.heap.objs.size], _, _, H1, rfl, I2, turn_enum a (s1.heap.objs.size + 1) s1.heap.objs.size, ⟨⟨.none, he⟩, hit, Nat.succ_ne_self _⟩, fun b hb => I1.fpOk (e2 hb) (I1.hok.fresh (e2 hb)), q⟩
    · replace q := q _ _ walk_enumT fun H' s => SqT.of (K := X.K) (s _ _ hq)
      replace hq := SqT.of (K := X.K) hq
      obtain ⟨its, rv, p', hz⟩ := I1.tuple hq
      have pT : s1.heap.IsTuple a its.toArray := p'
      refine enum_begins1 (begins_tuple a its.toArray) pT fun h' he hit hsz hk => wpAny_pyIter_enum he ?_
      have I2 : Inv X pins σ H1 { s1 with heap := h' } := I1.kept (t' := s1.toks) hk
      exact ⟨s1.heap.objs.size + 1, [s1.heap.objs.size + 1, s1.heap.objs.size], _, _, H1, rfl, I2, turn_enumT a (s1.heap.objs.size + 1) s1.heap.objs.size, ⟨⟨.none, he⟩, ⟨_, hit, rfl, rfl⟩, Nat.succ_ne_self _⟩, fun b hb => I1.fpOk (e2 hb) (I1.hok.fresh (e2 hb)), q⟩
/-- for x in xs, a list or a tuple -/
def iSeq (K : PySem.W.Frag) (tl : TE) : TI := fun σ H R => tl σ H fun x H1 => ∃ a xs, x = .ref a ∧ SeqH H1 a xs ∧ ∀ (J : It) (G : Hp → Prop), Walk J xs.length G (YAt xs) → (∀ H', Same H1 H' → G H') → R J H1
theorem pi_seq {X : Cx} {tg l : Expr} {tl : TE} (hl : PE X l tl) : PI X tg l (iSeq X.K tl) := by
  refine ⟨fun pins s σ H R I h => ?_⟩
  refine thn (hl.run pins s σ H _ I h) fun v s1 ⟨x, H1, I1, r1, q1⟩ => ?_
  obtain ⟨a, xs, e, hq, q⟩ := q1
  subst e
  cases r1
  rcases hq with hq | hq
  · replace q := q _ _ walk_list fun H' s => SqL.of (K := X.K) (s _ _ hq)
    replace hq := SqL.of (K := X.K) hq
    obtain ⟨its, rv, p, hz⟩ := I1.list hq
    refine wpAny_pyIter_list p.isList ?_
    refine ⟨s1.heap.objs.size, [s1.heap.objs.size], _, _, H1, rfl, I1.kept (t' := s1.toks) fun b o e => Heap.get?_push_of_some _ e, turn_list a _, ⟨_, Heap.get?_push_size _ rfl, rfl, rfl⟩, fun b hb => ?_, q⟩
    have e : b = s1.heap.objs.size := by simpa using hb
    subst e
    exact I1.fpOk (Nat.le_refl _) (I1.hok.fresh (Nat.le_refl _))
  · replace q := q _ _ walk_tup fun H' s => SqT.of (K := X.K) (s _ _ hq)
    replace hq := SqT.of (K := X.K) hq
    obtain ⟨its, rv, p, hz⟩ := I1.tuple hq
    refine wpAny_pyIter_tuple (show s1.heap.IsTuple a its.toArray from p) ?_
    refine ⟨s1.heap.objs.size, [s1.heap.objs.size], _, _, H1, rfl, I1.kept (t' := s1.toks) fun b o e => Heap.get?_push_of_some _ e, turn_tuple a _, ⟨_, Heap.get?_push_size _ rfl, rfl, rfl⟩, fun b hb => ?_, q⟩
    have e : b = s1.heap.objs.size := by simpa using hb
    subst e
    exact I1.fpOk (Nat.le_refl _) (I1.hok.fresh (Nat.le_refl _))
/-- t + u -/
def rCatU : R2 := fun x y H Q => ∃ a b xs ys, x = .ref a ∧ y = .ref b ∧ H a = some (.tup xs) ∧ H b = some (.tup ys) ∧ xs.length + ys.length ≤ sizeLine ∧ ∀ p H', Same H H' → H' p = some (.tup (xs ++ ys)) → Q (.ref p) H'
theorem op_catU {X : Cx} : OpR X (binaryOp .Add) rCatU := by
  intro pins s σ H x y v u Q I rx ry h
  obtain ⟨a, b, xs, ys, rfl, rfl, ha, hb, hz, k⟩ := h
  refine op_catA pins s σ H _ _ v u Q I rx ry ⟨a, b, xs, ys, rfl, rfl, SqT.of ha, SqT.of hb, hz, ?_⟩
  exact ⟨fun e => k b H (Same.refl _) (by rw [hb, e]; rfl), fun _ e => k a H (Same.refl _) (by rw [ha, e, List.append_nil]), fun _ _ p hp => k p _ (same_upd hp) upd_same⟩
/-- a slice of a tuple, the whole or not -/
theorem sl_any {H : Hp} {a : Addr} {xs : List V} {lo hi : Option Int} {Q : V → Hp → Prop} (ha : H a = some (.tup xs)) (k : ∀ p H', Same H H' → H' p = some (.tup (cutV xs lo hi)) → Q (.ref p) H') :
    (HT.sIx xs.length 0 lo = 0 ∧ HT.sIx xs.length xs.length hi = xs.length → Q (.ref a) H) ∧ (¬ (HT.sIx xs.length 0 lo = 0 ∧ HT.sIx xs.length xs.length hi = xs.length) → ∀ p, H p = none → Q (.ref p) (upd H p (.tup (cutV xs lo hi)))) := by
  refine ⟨fun ⟨h1, h2⟩ => k a H (Same.refl _) ?_, fun _ p hp => k p _ (same_upd hp) upd_same⟩
  rw [ha]
  unfold cutV
  rw [h1, h2, List.drop_zero, Nat.sub_zero, List.take_length]
def rSlU : V → Option Int → Option Int → Hp → VK → Prop := fun x lo hi H Q => ∃ a xs, x = .ref a ∧ H a = some (.tup xs) ∧ ∀ p H', Same H H' → H' p = some (.tup (cutV xs lo hi)) → Q (.ref p) H'
theorem sl_tupU {X : Cx} : SlR X rSlU := by
  intro pins s σ H x v vl vu lo hi sl Q I rx hs pl pu h
  obtain ⟨a, xs, rfl, ha, k⟩ := h
  exact sl_tupA pins s σ H _ v vl vu lo hi sl Q I rx hs pl pu ⟨a, xs, rfl, SqT.of ha, sl_any ha k⟩
theorem cutV_to (xs : List V) (n : Nat) : cutV xs none (some (n : Int)) = xs.take n := by
  unfold cutV
  rw [HT.sIx_none, HT.sIx_nat, List.drop_zero, Nat.sub_zero]
  by_cases h : n ≤ xs.length
  · rw [Nat.min_eq_left h]
  · rw [Nat.min_eq_right (by omega), List.take_of_length_le (Nat.le_refl _), List.take_of_length_le (by omega)]
theorem cutV_from (xs : List V) (n : Nat) : cutV xs (some (n : Int)) none = xs.drop n := by
  unfold cutV
  rw [HT.sIx_none, HT.sIx_nat]
  by_cases h : n ≤ xs.length
  · rw [Nat.min_eq_left h, List.take_of_length_le (by rw [List.length_drop]; exact Nat.le_refl _)]
  · rw [Nat.min_eq_right (by omega), List.drop_of_length_le (Nat.le_refl _), List.drop_of_length_le (by omega)]
    exact List.take_nil
end Wd
end
section
set_option Elab.async false
set_option linter.all false
set_option maxRecDepth 100000
set_option maxHeartbeats 1000000
set_option pp.maxSteps 600
/-! a list or a tuple: item, slice, length, its tuple, a list of it -/
namespace Wd
open PySem PySem.Spec PyProof.Rows L2
def rIxU : R2 := fun x y H Q => ∃ a xs i v, x = .ref a ∧ y = .int i ∧ SeqH H a xs ∧ atI xs i = some v ∧ Q v H
theorem ix_U {X : Cx} : IxR X rIxU := by
  intro value slice pins s σ H x y v u Q I rx ry h hs
  obtain ⟨a, xs, i, z, e1, e2, hq, he, q⟩ := h
  rcases hq with hq | hq
  · exact ix_list value slice pins s σ H x y v u Q I rx ry ⟨a, xs, i, z, e1, e2, SqL.of hq, he, q⟩ hs
  · exact ix_tup value slice pins s σ H x y v u Q I rx ry ⟨a, xs, i, z, e1, e2, SqT.of hq, he, q⟩ hs
/-- a slice: of the kind of what is cut -/
def rSlQ : V → Option Int → Option Int → Hp → VK → Prop := fun x lo hi H Q => ∃ a xs, x = .ref a ∧ SeqH H a xs ∧ ∀ p H', Same H H' → SeqH H' p (cutV xs lo hi) → Q (.ref p) H'
theorem sl_seqQ {X : Cx} : SlR X rSlQ := by
  intro pins s σ H x v vl vu lo hi sl Q I rx hs pl pu h
  obtain ⟨a, xs, rfl, ha, k⟩ := h
  rcases ha with ha | ha
  · exact sl_list pins s σ H _ v vl vu lo hi sl Q I rx hs pl pu ⟨a, xs, rfl, SqL.of ha, fun p hp => k p _ (same_upd hp) (.inl upd_same)⟩
  · exact sl_tupU pins s σ H _ v vl vu lo hi sl Q I rx hs pl pu ⟨a, xs, rfl, ha, fun p H' s e => k p H' s (.inr e)⟩
theorem SeqH.len {K : PySem.W.Frag} {H : Hp} {a : Addr} {xs : List V} (h : SeqH H a xs) : LenV K (.ref a) H xs.length := by
  rcases h with h | h
  · exact .inl ⟨xs, SqL.of h, rfl⟩
  · exact .inr ⟨xs, SqT.of h, rfl⟩
def rListU : List V → Hp → VK → Prop := fun vs H Q => ∃ a xs, vs = [.ref a] ∧ SeqH H a xs ∧ ∀ p, H p = none → Q (.ref p) (upd H p (.lst xs))
theorem call_listU {X : Cx} : CallR X (.type "list") rListU := by
  intro pins s σ H xs us Q I r h
  obtain ⟨a, ys, rfl, hq, k⟩ := h
  refine call_list_of pins s σ H _ us Q I r ⟨a, ys, rfl, ?_⟩
  rcases hq with hq | hq
  · exact .inl (SqL.of hq) |> fun z => ⟨z, k⟩
  · exact .inr (SqT.of hq) |> fun z => ⟨z, k⟩
def rTupU : List V → Hp → VK → Prop := fun vs H Q => ∃ a xs, vs = [.ref a] ∧ SeqH H a xs ∧ ∀ p H', Same H H' → H' p = some (.tup xs) → Q (.ref p) H'
theorem call_tupU {X : Cx} : CallR X (.type "tuple") rTupU := by
  intro pins s σ H xs us Q I r h
  obtain ⟨a, ys, rfl, hq, k⟩ := h
  refine call_tuple_of pins s σ H _ us Q I r ⟨a, ys, rfl, ?_⟩
  rcases hq with hq | hq
  · exact .inl ⟨SqL.of hq, fun l hl => k l _ (same_upd hl) upd_same⟩
  · exact .inr ⟨SqT.of hq, k a H (Same.refl _) hq⟩
/-- for x in xs, a list or a tuple: what walks it asks for the object alone -/
def iSeqE (K : PySem.W.Frag) (tl : TE) : TI := fun σ H R => tl σ H fun x H1 => ∃ a xs, x = .ref a ∧ SeqH H1 a xs ∧ ∀ (J : It) (G : Hp → Prop), Walk J xs.length G (YAt xs) → (∀ H', H' a = H1 a → G H') → R J H1
theorem pi_seqE {X : Cx} {tg l : Expr} {tl : TE} (hl : PE X l tl) : PI X tg l (iSeqE X.K tl) := by
  refine ⟨fun pins s σ H R I h => ?_⟩
  refine thn (hl.run pins s σ H _ I h) fun v s1 ⟨x, H1, I1, r1, q1⟩ => ?_
  obtain ⟨a, xs, e, hq, q⟩ := q1
  subst e
  cases r1
  rcases hq with hq | hq
  · replace q := q _ _ walk_list fun H' s => SqL.of (K := X.K) (s.trans hq)
    replace hq := SqL.of (K := X.K) hq
    obtain ⟨its, rv, p, hz⟩ := I1.list hq
    refine wpAny_pyIter_list p.isList ?_
    refine ⟨s1.heap.objs.size, [s1.heap.objs.size], _, _, H1, rfl, I1.kept (t' := s1.toks) fun b o e => Heap.get?_push_of_some _ e, turn_list a _, ⟨_, Heap.get?_push_size _ rfl, rfl, rfl⟩, fun b hb => ?_, q⟩
    have e : b = s1.heap.objs.size := by simpa using hb
    subst e
    exact I1.fpOk (Nat.le_refl _) (I1.hok.fresh (Nat.le_refl _))
  · replace q := q _ _ walk_tup fun H' s => SqT.of (K := X.K) (s.trans hq)
    replace hq := SqT.of (K := X.K) hq
    obtain ⟨its, rv, p, hz⟩ := I1.tuple hq
    refine wpAny_pyIter_tuple (show s1.heap.IsTuple a its.toArray from p) ?_
    refine ⟨s1.heap.objs.size, [s1.heap.objs.size], _, _, H1, rfl, I1.kept (t' := s1.toks) fun b o e => Heap.get?_push_of_some _ e, turn_tuple a _, ⟨_, Heap.get?_push_size _ rfl, rfl, rfl⟩, fun b hb => ?_, q⟩
    have e : b = s1.heap.objs.size := by simpa using hb
    subst e
    exact I1.fpOk (Nat.le_refl _) (I1.hok.fresh (Nat.le_refl _))
/-- what stands at u stays -/
theorem SeqH.eq {H H' : Hp} {a : Addr} {xs : List V} (h : SeqH H a xs) (s : ∀ o, H a = some o → (∀ φ, o ≠ .ext φ) → H' a = some o) : H' a = H a := by
  rcases h with h | h
  · rw [h, s _ h (fun _ => nofun)]
  · rw [h, s _ h (fun _ => nofun)]
end Wd
end
section
set_option Elab.async false
set_option linter.all false
set_option maxRecDepth 100000
set_option maxHeartbeats 1000000
namespace Wd
open PySem PySem.Spec PyProof.Rows L2 Wt TL NumText
/-- x not in a tuple of data of any depth -/
def rNotInDT (K : PySem.W.Frag) : R2 := fun x y H Q => ∃ d ds, Dp K H x d ∧ Dp K H y (.tuple ds) ∧ SeqAt.shaped d = true ∧ SeqAt.shaped (.list ds) = true ∧ Q (.bl (!ds.any fun z => PyData.eqv z d)) H
theorem op_notInDT {X : Cx} (hu : X.A.units + 65 < cLine) : OpR X (compareOp .NotIn) (rNotInDT X.K) := by
  intro pins s σ H x y v u Q I rx ry h
  obtain ⟨d, ds, hd, he, sd, se, q⟩ := h
  obtain ⟨as, r1⟩ := Dp.reads I d x v hd rx
  obtain ⟨bs, r2⟩ := Dp.reads I (.tuple ds) y u he ry
  exact SeqAt.notIn_tuple_reads r2 r1 (SeqAt.canLay_of_shaped se) (SeqAt.canLay_of_shaped sd) (room_in_shaped sd hu) ⟨.bl _, H, I, rfl, q⟩
def spKnown (C CE : Addr) : Sp := fun vs H Q _ => ∃ (x y : Addr) (s : PSt) (p h z k : Str) (oh a b oz : Int) (o : Option Str), vs = [.ref x, .str p, .ref y] ∧ NetAt C x H s ∧ KnownP s p h oh ∧ EntA CE y z k a b o H ∧ KnownZ s k o oz ∧ Q .non H
/-- all names of a walk are programs of the net -/
def KnownW (s : PSt) (ws : List Str) : Prop := ∀ p ∈ ws, nameL (tl p) ∧ ∃ h oh, KnownP s p h oh
def spNWalk (C CE : Addr) : Sp := fun vs H Q _ => ∃ (x tw y : Addr) (s : PSt) (ws : List Str) (z k : Str) (a b oz : Int) (o : Option Str), vs = [.ref x, .ref tw, .ref y] ∧ NetAt C x H s ∧ SeqH H tw (ws.map V.str) ∧ ws ≠ [] ∧ ws.length ≤ 1000 ∧ Chain s.os ws ∧ KnownW s ws ∧
  (∀ r ∈ s.os, nameL (tl r.1) ∧ nameL (tl r.2)) ∧ EntA CE y z k a b o H ∧ KnownZ s k o oz ∧ ∀ H', Same H H' → Q .non H'
section
variable {P : Program} {w : World} {K : PySem.W.Frag} {mg : Str → Option Value} {base : Heap} {f : Addr} {fd : FuncData}
theorem scNeed_known : FnScope ["net", "p", "entry"] ["net", "p", "entry"] (defScope (top i_need_known)) := ⟨rfl, rfl, rfl, by decide +kernel, rfl, by decide +kernel, by decide +kernel⟩
theorem ok_known (F : FnG K "need_known" i_need_known f fd) (T : Tx K mg) (Nt : Tn K mg) (M : MN P w K mg base) : FnOk P w K mg base CX0 3 f fd ["net", "p", "entry"] (spKnown (He.ga K "Net") (He.ga K "Entry")) := by
  refine F.ok scNeed_known (fun vs H Q E h => ?_) (fun cdv A outer s H vs Q E hr h => ?_)
  · obtain ⟨x, y, st, p, h, z, kd, oh, a, b, oz, o, rfl, _⟩ := h
    rfl
  · obtain ⟨x, y, st, p, h, z, kd, oh, a, b, oz, o, rfl, hN, hp, hE, hz, k⟩ := h
    refine ⟨_, PSs.nox (pss_cons (ps_expr (pe_md M.home_of (pv 0) Nt.cl (hr.mono (by decide)) pass0 (pa_cons (pv 1) pa_nil)))
        (pss_one (ps_if (pt_cmpR op_eq (pe_fld (pv 2) rfl) pe_str (nomark _)) (pss_one (ps_expr (pe_md M.offset_of (pv 0) Nt.cl (hr.mono (by decide)) pass0 (pa_cons (pe_fld (pv 2) rfl) pa_nil)))) pss_nil))), ?_⟩
    obtain ⟨dx, a1, a2, a3, t1, t2, t3, a4, vo, q0, _⟩ := hN.at_
    obtain ⟨dy, e0⟩ := hE
    have e1 : (nFs a1 a2 a3 t1 t2 t3 a4 (Txt.join "\n" (linesS st))).lookup ("offset_of" : Str) = none := nf_none (by decide +kernel)
    have e2 : (nFs a1 a2 a3 t1 t2 t3 a4 (Txt.join "\n" (linesS st))).lookup ("home_of" : Str) = none := nf_none (by decide +kernel)
    refine ⟨_, rfl, x, dx, _, rfl, q0, e2, _, rfl, x, st, p, h, rfl, hN, hp.hs, ?_⟩
    refine ⟨_, rfl, y, _, dy, _, _, rfl, e0, T.cl, T.n2, lk_kind, rfl, _, rfl, ifC (fun hk => ?_) (fun _ => k)⟩
    obtain ⟨zn, rfl, gz⟩ := hz (V.str.inj hk)
    exact ⟨_, rfl, x, dx, _, rfl, q0, e1, _, rfl, y, _, dy, _, _, rfl, e0, T.cl, T.n5, lk_zone, x, st, zn, oz, rfl, hN, gz, k⟩
structure DNWalk (P : Program) (w : World) (K : PySem.W.Frag) (mg : Str → Option Value) (base : Heap) : Prop where
  need_known : Df P w K mg base CX0 3 "need_known" ["net", "p", "entry"] (spKnown (He.ga K "Net") (He.ga K "Entry"))
end
end Wd
end
section
set_option Elab.async false
set_option linter.all false
set_option maxRecDepth 100000
set_option maxHeartbeats 1000000
namespace Wd
open PySem PySem.Spec PyProof.Rows L2 Wt TL NumText
/-- what is held of an entry: kind, zone, minutes -/
def heldV (k : Str) (o : Option Str) (a b : Int) : List V := [.str k, oS o, .int a, .int b]
def spHeld (CE : Addr) : Sp := fun vs H Q _ => ∃ (y : Addr) (z k : Str) (a b : Int) (o : Option Str), vs = [.ref y] ∧ EntA CE y z k a b o H ∧ ∀ t H', Same H H' → H t = none → H' t = some (.tup (heldV k o (minS k a) (minS k b))) → Q (.ref t) H'
def spEntry (CE : Addr) : Sp := fun vs H Q _ => ∃ (t : Addr) (k : Str) (a b : Int) (o : Option Str), vs = [.ref t] ∧ H t = some (.tup (heldV k o a b)) ∧ Val k (valS k a) (valS k b) o ∧ small (valS k a) ∧ small (valS k b) ∧
  ∀ y H', Same H H' → EntA CE y (mkT k (valS k a) (valS k b) o) k (valS k a) (valS k b) o H' → Q (.ref y) H'
/-- the facts of the class of copiers -/
structure Tc (K : PySem.W.Frag) (mg : Str → Option Value) : Prop where
  cl : Cls K (He.ga K "Copier")
  n1 : NoAttr K (He.ga K "Copier") "_net"
  n2 : NoAttr K (He.ga K "Copier") "_end"
  n3 : NoAttr K (He.ga K "Copier") "_effects"
  n4 : NoAttr K (He.ga K "Copier") "_leads"
def cFs (x : Addr) (en : Int) (ae al : Addr) : List (Str × V) := putF "_leads" (.ref al) (putF "_effects" (.ref ae) (putF "_end" (.int en) (putF "_net" (.ref x) [])))
section
variable {x ae al : Addr} {en : Int}
theorem cf1 : (cFs x en ae al).lookup ("_net" : Str) = some (.ref x) := by
  unfold cFs
  rw [lookup_putF, if_neg (by decide +kernel), lookup_putF, if_neg (by decide +kernel), lookup_putF, if_neg (by decide +kernel), lookup_putF, if_pos rfl]
theorem cf2 : (cFs x en ae al).lookup ("_end" : Str) = some (.int en) := by
  unfold cFs
  rw [lookup_putF, if_neg (by decide +kernel), lookup_putF, if_neg (by decide +kernel), lookup_putF, if_pos rfl]
theorem cf3 : (cFs x en ae al).lookup ("_effects" : Str) = some (.ref ae) := by
  unfold cFs
  rw [lookup_putF, if_neg (by decide +kernel), lookup_putF, if_pos rfl]
theorem cf4 : (cFs x en ae al).lookup ("_leads" : Str) = some (.ref al) := by
  unfold cFs
  rw [lookup_putF, if_pos rfl]
end
/-- the key of a cache -/
def cKey (q k : Str) (o : Option Str) : List OKey := [some (.inr q), some (.inr k), o.map Sum.inr]
theorem cKey_v (q k : Str) (o : Option Str) : (cKey q k o).map oKV = [.str q, .str k, oS o] := by
  cases o <;> rfl
/-- what a row of the cache of effects tells -/
def EffRow (H : Hp) (s : PSt) (en : Int) (r : ORow) : Prop := ∃ (q k h : Str) (o : Option Str) (oh oz : Int) (t : Addr) (k' : Str) (o' : Option Str) (m : Int) (rd : Bool), r.1 = cKey q k o ∧ r.2.2 = .ref t ∧ H t = some (.tup [.str k', oS o', .int m, .bl rd]) ∧
  KnownP s q h oh ∧ KnownZ s k o oz ∧ EffS h oh oz k o (ruleS s.rs q k) en k' o' m rd
def LeadRow (s : PSt) (r : ORow) : Prop := ∃ (p k h : Str) (o : Option Str) (oh oz : Int), r.1 = cKey p k o ∧ r.2.2 = .int (leadS k oh oz) ∧ KnownP s p h oh ∧ KnownZ s k o oz
/-- at c a copier of the net at x, of one end, with at most n things kept -/
structure CopAt (P : Program) (w : World) (C : Addr) (c x : Addr) (en : Int) (ae al : Addr) (n : Nat) (H : Hp) (s : PSt) : Prop where
  at_ : ∃ (dc : Addr) (ke kl : List ORow), H c = some (.ins C dc (cFs x en ae al)) ∧ ae ≠ al ∧ OD P w H ae ke ∧ OD P w H al kl ∧ (∀ r ∈ ke, EffRow H s en r) ∧ (∀ r ∈ kl, LeadRow s r) ∧ ke.length ≤ n ∧ kl.length ≤ n
def spCInit (P : Program) (w : World) (C : Addr) : Sp := fun vs H Q _ => ∃ (c dc x : Addr) (en : Int), vs = [.ref c, .ref x, .int en] ∧ H c = some (.ins C dc []) ∧
  ∀ H' ae al, (∀ a o, H a = some o → a ≠ c → H' a = some o) → H ae = none → H al = none → (∀ s, CopAt P w C c x en ae al 0 H' s) → Q .non H'
section
variable {P : Program} {w : World} {K : PySem.W.Frag} {mg : Str → Option Value} {base : Heap} {f : Addr} {fd : FuncData}
structure DHeld (P : Program) (w : World) (K : PySem.W.Frag) (mg : Str → Option Value) (base : Heap) : Prop where
  minutes_of : Df P w K mg base CX0 1 "minutes_of" ["kind", "value"] spMin
theorem scMinutes_held : FnScope ["entry", "kind"] ["entry"] (defScope (top i_minutes_held)) := ⟨rfl, rfl, rfl, by decide +kernel, rfl, by decide +kernel, by decide +kernel⟩
theorem ok_held (F : FnG K "minutes_held" i_minutes_held f fd) (T : Tx K mg) (D : DHeld P w K mg base) : FnOk P w K mg base CX0 2 f fd ["entry"] (spHeld (He.ga K "Entry")) := by
  refine F.ok scMinutes_held (fun vs H Q E h => ?_) (fun cdv A outer s H vs Q E hr h => ?_)
  · obtain ⟨y, z, kd, a, b, o, rfl, _⟩ := h
    rfl
  · obtain ⟨y, z, kd, a, b, o, rfl, ⟨dy, e0⟩, k⟩ := h
    refine ⟨_, PSs.nox (pss_cons (ps_set (i := 1) scMinutes_held.nd rfl (Or.inl rfl) (pe_fld (pv 0) rfl))
        (pss_one (ps_ret (pe_tup (pa_cons (pv 1) (pa_cons (pe_fld (pv 0) rfl) (pa_cons (pe_cd D.minutes_of (hr.mono (by decide)) pass0 (pa_cons (pv 1) (pa_cons (pe_fld (pv 0) rfl) pa_nil))) (pa_cons (pe_cd D.minutes_of (hr.mono (by decide)) pass0 (pa_cons (pv 1) (pa_cons (pe_fld (pv 0) rfl) pa_nil))) pa_nil)))))))), ?_⟩
    refine ⟨_, rfl, y, _, dy, _, _, rfl, e0, T.cl, T.n2, lk_kind, ?_⟩
    refine ⟨_, rfl, _, rfl, y, _, dy, _, _, rfl, e0, T.cl, T.n5, lk_zone, _, rfl, _, rfl, y, _, dy, _, _, rfl, e0, T.cl, T.n3, lk_first, kd, a, rfl, _, rfl, _, rfl, y, _, dy, _, _, rfl, e0, T.cl, T.n4, lk_last, kd, b, rfl, (by show 4 ≤ sizeLine; decide), fun t ht => ?_⟩
    exact k t _ (same_upd ht) ht upd_same
structure DEntry (P : Program) (w : World) (K : PySem.W.Frag) (mg : Str → Option Value) (base : Heap) : Prop where
  entry_of : Df P w K mg base CX0 6 "entry_of" ["kind", "first", "last", "zone"] (spOf (He.ga K "Entry"))
  value_of : Df P w K mg base CX0 1 "value_of" ["kind", "minutes"] spVal
theorem scCInit : FnScope ["self", "net", "end"] ["self", "net", "end"] (defScope (inClass (top i_Copier) j_Copier___init__)) := ⟨rfl, rfl, rfl, by decide +kernel, rfl, by decide +kernel, by decide +kernel⟩
theorem ok_cInit (F : FunD K "__init__" "Copier.__init__" (defArgs (inClass (top i_Copier) j_Copier___init__)) (defBody (inClass (top i_Copier) j_Copier___init__)) (defScope (inClass (top i_Copier) j_Copier___init__)) [] [] f fd) (Z : Tc K mg) :
    FnOk P w K mg base CX0 1 f fd ["self", "net", "end"] (spCInit P w (He.ga K "Copier")) := by
  refine F.ok scCInit (fun vs H Q E h => ?_) (fun cdv A outer s H vs Q E hr h => ?_)
  · obtain ⟨c, dc, x, en, rfl, _⟩ := h
    rfl
  · obtain ⟨c, dc, x, en, rfl, q0, k⟩ := h
    refine ⟨_, PSs.nox (pss_cons (ps_fld (pv 0) (pv 1) rfl)
        (pss_cons (ps_fld (pv 0) (pv 2) rfl)
        (pss_cons (ps_fld (pv 0) pe_dnewO rfl)
        (pss_one (ps_fld (pv 0) pe_dnewO rfl))))), ?_⟩
    refine ⟨_, rfl, _, rfl, c, _, dc, _, rfl, q0, Z.cl, Z.n1, (by show 0 < 1000; decide), ?_⟩
    refine ⟨_, rfl, _, rfl, c, _, dc, _, rfl, upd_same, Z.cl, Z.n2, (by show 1 < 1000; decide), ?_⟩
    have f2 : ∀ a o, H a = some o → a ≠ c → (upd (upd H c (.ins (He.ga K "Copier") dc (putF "_net" (.ref x) []))) c (.ins (He.ga K "Copier") dc (putF "_end" (.int en) (putF "_net" (.ref x) [])))) a = some o := fun a o e n => by rw [upd_ne n, upd_ne n]; exact e
    have x2 : (upd (upd H c (.ins (He.ga K "Copier") dc (putF "_net" (.ref x) []))) c (.ins (He.ga K "Copier") dc (putF "_end" (.int en) (putF "_net" (.ref x) [])))) c = some (.ins (He.ga K "Copier") dc (putF "_end" (.int en) (putF "_net" (.ref x) []))) := upd_same
    generalize upd (upd H c (.ins (He.ga K "Copier") dc (putF "_net" (.ref x) []))) c (.ins (He.ga K "Copier") dc (putF "_end" (.int en) (putF "_net" (.ref x) []))) = H2 at f2 x2 ⊢
    refine fun ae hae => ?_
    have n1 : ae ≠ c := (ne_of_none x2 hae).symm
    refine ⟨_, rfl, c, _, dc, _, rfl, by rw [upd_ne n1.symm]; exact x2, Z.cl, Z.n3, (by show 2 < 1000; decide), ?_⟩
    have x3 : (upd (upd H2 ae (odO P w ae [])) c (.ins (He.ga K "Copier") dc (putF "_effects" (.ref ae) (putF "_end" (.int en) (putF "_net" (.ref x) []))))) c = some (.ins (He.ga K "Copier") dc (putF "_effects" (.ref ae) (putF "_end" (.int en) (putF "_net" (.ref x) [])))) := upd_same
    have e3 : (upd (upd H2 ae (odO P w ae [])) c (.ins (He.ga K "Copier") dc (putF "_effects" (.ref ae) (putF "_end" (.int en) (putF "_net" (.ref x) []))))) ae = some (odO P w ae []) := by rw [upd_ne n1, upd_same]
    have f3 : ∀ a o, H a = some o → a ≠ c → (upd (upd H2 ae (odO P w ae [])) c (.ins (He.ga K "Copier") dc (putF "_effects" (.ref ae) (putF "_end" (.int en) (putF "_net" (.ref x) []))))) a = some o := fun a o e n => by
      rw [upd_ne n, upd_ne (ne_of_none (f2 a o e n) hae)]
      exact f2 a o e n
    generalize hH : upd (upd H2 ae (odO P w ae [])) c (.ins (He.ga K "Copier") dc (putF "_effects" (.ref ae) (putF "_end" (.int en) (putF "_net" (.ref x) [])))) = H3 at x3 e3 f3
    refine fun al hal => ?_
    have hal : H3 al = none := by rw [← hH]; exact hal
    have n2 : al ≠ c := (ne_of_none x3 hal).symm
    have n3 : al ≠ ae := (ne_of_none e3 hal).symm
    refine ⟨_, rfl, c, _, dc, (putF "_effects" (.ref ae) (putF "_end" (.int en) (putF "_net" (.ref x) []))), rfl, ?_, Z.cl, Z.n4, (by show 3 < 1000; decide), ?_⟩
    rotate_left
    · have goal : ∀ H' : Hp, H' = upd (upd H3 al (odO P w al [])) c (.ins (He.ga K "Copier") dc (cFs x en ae al)) → Q .non H' := fun H' e => by
        refine k H' ae al (fun a o z n => ?_) (by
          cases z : H ae with
          | none => rfl
          | some o => rw [f2 _ _ z n1] at hae; cases hae) (by
          cases z : H al with
          | none => rfl
          | some o => rw [f3 _ _ z n2] at hal; cases hal) fun s => ⟨dc, [], [], ?_, n3.symm, ⟨?_, (fun r hr => by cases hr)⟩, ⟨?_, (fun r hr => by cases hr)⟩, (fun r hr => by cases hr), (fun r hr => by cases hr), Nat.le_refl _, Nat.le_refl _⟩
        · rw [e, upd_ne n, upd_ne (ne_of_none (f3 a o z n) hal)]
          exact f3 a o z n
        · rw [e, upd_same]
        · rw [e, upd_ne n1, upd_ne n3.symm]
          exact e3
        · rw [e, upd_ne n2, upd_same]
      exact goal _ (by rw [← hH]; rfl)
    · show (upd (upd (upd H2 ae (odO P w ae [])) c _) al (odO P w al [])) c = _
      rw [hH, upd_ne n2.symm]
      exact x3
end
end Wd
end
section
set_option Elab.async false
set_option linter.all false
set_option maxRecDepth 100000
set_option maxHeartbeats 1000000
namespace Wd
open PySem PySem.Spec PyProof.Rows L2 Wt TL NumText
theorem EffS.oz {h : Str} {oh oz oz' : Int} {k : Str} {o : Option Str} {r : Str} {en : Int} {k' : Str} {o' : Option Str} {m : Int} {rd : Bool} (hk : k ∈ KS) (e : k = "zoned" → oz = oz') (x : EffS h oh oz k o r en k' o' m rd) : EffS h oh oz' k o r en k' o' m rd := by
  cases x with
  | keep h1 => exact .keep h1
  | day t b e1 h1 h2 h3 h4 h5 h6 h7 => exact .day _ b e1 h1 h2 h3 h4 h5 h6 h7
  | clock t m h1 h2 h3 =>
    refine .clock _ _ h1 h2 ?_
    by_cases hz : k = "zoned"
    · rw [← e hz]
      exact h3
    · rw [← h3]
      unfold tamS
      rcases ks4 hk with e | e | e | e
      · exact absurd e h1
      · rw [if_pos e, if_pos e]
      · exact absurd e hz
      · have n : ¬ k = "float" := by rw [e]; decide +kernel
        rw [if_neg n, if_pos e, if_neg n, if_pos e]
theorem cKey_inj {q q' k k' : Str} {o o' : Option Str} (h : cKey q k o = cKey q' k' o') : q = q' ∧ k = k' ∧ o = o' := by
  unfold cKey at h
  simp only [List.cons.injEq, Option.some.injEq, Sum.inr.injEq, and_true] at h
  obtain ⟨h1, h2, h3⟩ := h
  refine ⟨h1, h2, ?_⟩
  cases o <;> cases o' <;> simp_all
theorem oVal_mem {kvs : List ORow} {k : List OKey} {v : V} (h : oVal kvs k = some v) : ∃ r ∈ kvs, r.1 = k ∧ r.2.2 = v := by
  unfold oVal at h
  obtain ⟨r, hr, e⟩ := Option.map_eq_some_iff.mp h
  have := List.find?_some hr
  exact ⟨r, List.mem_of_find?_eq_some hr, of_decide_eq_true this, e⟩
theorem oVal_snoc {kvs : List ORow} {k : List OKey} {b : Addr} {v : V} (h : oVal kvs k = none) : oVal (kvs ++ [(k, b, v)]) k = some v := by
  unfold oVal at h ⊢
  rw [List.find?_append]
  rw [Option.map_eq_none_iff.mp h]
  simp
theorem KnownP.uniq {s : PSt} {p h h' : Str} {oh oh' : Int} (x : KnownP s p h oh) (y : KnownP s p h' oh') : h = h' ∧ oh = oh' := by
  have e : h = h' := Option.some.inj (x.hs.symm.trans y.hs)
  subst e
  exact ⟨rfl, Option.some.inj (x.zs.symm.trans y.zs)⟩
theorem OD.same {P : Program} {w : World} {H H' : Hp} {a : Addr} {kvs : List ORow} (e : Same H H') (d : OD P w H a kvs) : OD P w H' a kvs := ⟨e _ _ d.at_, fun r hr => e _ _ (d.keys r hr)⟩
theorem EffRow.same {H H' : Hp} {s : PSt} {en : Int} {r : ORow} (e : Same H H') (h : EffRow H s en r) : EffRow H' s en r := by
  obtain ⟨q, k, h, o, oh, oz, t, k', o', m, rd, h1, h2, h3, h4⟩ := h
  exact ⟨q, k, h, o, oh, oz, t, k', o', m, rd, h1, h2, e _ _ h3, h4⟩
/-- all but the two dicts of a copier as it was -/
def Sa2 (ae al : Addr) (H H' : Hp) : Prop := ∀ b o, H b = some o → b ≠ ae → b ≠ al → H' b = some o
theorem Sa2.of {ae al : Addr} {H H' : Hp} (e : Same H H') : Sa2 ae al H H' := fun b o h _ _ => e b o h
theorem Sa2.trans {ae al : Addr} {H H1 H2 : Hp} (x : Sa2 ae al H H1) (y : Sa2 ae al H1 H2) : Sa2 ae al H H2 := fun b o h n1 n2 => y b o (x b o h n1 n2) n1 n2
theorem CopAt.same {P : Program} {w : World} {C c x : Addr} {en : Int} {ae al : Addr} {n : Nat} {H H' : Hp} {s : PSt} (e : Same H H') (h : CopAt P w C c x en ae al n H s) : CopAt P w C c x en ae al n H' s := by
  obtain ⟨dc, ke, kl, h1, h2, h3, h4, h5, h6, h7, h8⟩ := h.at_
  exact ⟨dc, ke, kl, e _ _ h1, h2, h3.same e, h4.same e, fun r hr => (h5 r hr).same e, h6, h7, h8⟩
theorem NetAt.sax {C x : Addr} {H H' : Hp} {s : PSt} (e : SaX H H') (h : NetAt C x H s) : NetAt C x H' s := by
  obtain ⟨dx, a1, a2, a3, t1, t2, t3, a4, vo, h0, h1, h2, h3, h4, h5, h6, h7, h8⟩ := h.at_
  refine ⟨dx, a1, a2, a3, t1, t2, t3, a4, vo, e _ _ h0 (fun _ => nofun), e _ _ h1 (fun _ => nofun), e _ _ h2 (fun _ => nofun), e _ _ h3 (fun _ => nofun), e _ _ h4 (fun _ => nofun), e _ _ h5 (fun _ => nofun), e _ _ h6 (fun _ => nofun), h7.mono fun _ _ ⟨c, q, y⟩ => ⟨c, q, e _ _ y (fun _ => nofun)⟩, ?_⟩
  obtain ⟨ts, g1, g2⟩ := h8
  exact ⟨ts, e _ _ g1 (fun _ => nofun), g2.mono fun u n y => e u _ (show H u = some (.tup ((goalsOf s.os n).map V.str)) from y) (fun _ => nofun)⟩
def spEffect (P : Program) (w : World) (C Cn : Addr) : Sp := fun vs H Q _ => ∃ (c x ae al : Addr) (s : PSt) (q h k : Str) (oh oz en : Int) (o : Option Str) (n : Nat), vs = [.ref c, .str q, .str k, oS o] ∧ CopAt P w C c x en ae al n H s ∧ n < 1000 ∧ NetAt Cn x H s ∧ KnownP s q h oh ∧ KnownZ s k o oz ∧ k ∈ KS ∧
  RuleD k (ruleS s.rs q k) ∧ (en = 0 ∨ en = 1) ∧ ∀ k' o' m rd t H', EffS h oh oz k o (ruleS s.rs q k) en k' o' m rd → CopAt P w C c x en ae al (n + 1) H' s → Sa2 ae al H H' → H' t = some (.tup [.str k', oS o', .int m, .bl rd]) → Q (.ref t) H'
section
variable {P : Program} {w : World} {K : PySem.W.Frag} {mg : Str → Option Value} {base : Heap} {f : Addr} {fd : FuncData}
structure DEff (P : Program) (w : World) (K : PySem.W.Frag) (mg : Str → Option Value) (base : Heap) : Prop where
  point_copy : Df P w K mg base CX0 5 "point_copy" ["net", "q", "kind", "zone", "end"] (spPCopy (He.ga K "Net"))
end
end Wd
end
section
set_option Elab.async false
set_option linter.all false
set_option maxRecDepth 100000
set_option maxHeartbeats 1000000
namespace Wd
open PySem PySem.Spec PyProof.Rows L2 Wt TL NumText
theorem leadS_oz {k : Str} {oh oz oz' : Int} (e : k = "zoned" → oz = oz') : leadS k oh oz = leadS k oh oz' := by
  unfold leadS
  split
  · rfl
  split
  · rename_i h
    rw [e h]
  · rfl
def spCLead (P : Program) (w : World) (C Cn : Addr) : Sp := fun vs H Q _ => ∃ (c x ae al : Addr) (s : PSt) (p h k : Str) (oh oz en : Int) (o : Option Str) (n : Nat), vs = [.ref c, .str p, .str k, oS o] ∧ CopAt P w C c x en ae al n H s ∧ n < 1000 ∧ NetAt Cn x H s ∧ KnownP s p h oh ∧ KnownZ s k o oz ∧
  ∀ H', CopAt P w C c x en ae al (n + 1) H' s → Sa2 ae al H H' → Q (.int (leadS k oh oz)) H'
def spDay (P : Program) (w : World) (C Cn : Addr) : Sp := fun vs H Q _ => ∃ (c x ae al : Addr) (s : PSt) (p h k : Str) (oh oz en m : Int) (o : Option Str) (n : Nat), vs = [.ref c, .str p, .str k, oS o, .int m] ∧ CopAt P w C c x en ae al n H s ∧ n < 1000 ∧ NetAt Cn x H s ∧ KnownP s p h oh ∧ KnownZ s k o oz ∧
  ∀ H', CopAt P w C c x en ae al (n + 1) H' s → Sa2 ae al H H' → Q (.int ((m + leadS k oh oz) / 1440)) H'
section
variable {P : Program} {w : World} {K : PySem.W.Frag} {mg : Str → Option Value} {base : Heap} {f : Addr} {fd : FuncData}
structure DCLead (P : Program) (w : World) (K : PySem.W.Frag) (mg : Str → Option Value) (base : Heap) : Prop where
  clock_lead : Df P w K mg base CX0 3 "clock_lead" ["net", "p", "kind", "zone"] (spLead (He.ga K "Net"))
theorem scCLead : FnScope ["self", "p", "kind", "zone", "key"] ["self", "p", "kind", "zone"] (defScope (inClass (top i_Copier) j_Copier_lead)) := ⟨rfl, rfl, rfl, by decide +kernel, rfl, by decide +kernel, by decide +kernel⟩
theorem ok_cLead (F : FunD K "lead" "Copier.lead" (defArgs (inClass (top i_Copier) j_Copier_lead)) (defBody (inClass (top i_Copier) j_Copier_lead)) (defScope (inClass (top i_Copier) j_Copier_lead)) [] [] f fd) (Z : Tc K mg) (D : DCLead P w K mg base) :
    FnOk P w K mg base CX0 5 f fd ["self", "p", "kind", "zone"] (spCLead P w (He.ga K "Copier") (He.ga K "Net")) := by
  refine F.ok scCLead (fun vs H Q E h => ?_) (fun cdv A outer s H vs Q E hr h => ?_)
  · obtain ⟨c, x, ae, al, st, q, h, kd, oh, oz, en, o, n, rfl, _⟩ := h
    rfl
  · obtain ⟨c, x, ae, al, st, q, h, kd, oh, oz, en, o, n, rfl, hC, hn, hN, hq, hz, k⟩ := h
    have hu := hu_of hr
    refine ⟨_, PSs.nox (pss_cons (ps_set (i := 4) scCLead.nd rfl (Or.inl rfl) (pe_tup (pa_cons (pv 1) (pa_cons (pv 2) (pa_cons (pv 3) pa_nil)))))
        (pss_cons (ps_if (pt_cmp (pc_onotin hu (pv 4) (pe_fld (pv 0) rfl))) (pss_one (ps_oput hu (pe_fld (pv 0) rfl) (pv 4) (pe_cd D.clock_lead (hr.mono (by decide)) pass0 (pa_cons (pe_fld (pv 0) rfl) (pa_cons (pv 1) (pa_cons (pv 2) (pa_cons (pv 3) pa_nil))))) rfl)) pss_nil)
        (pss_one (ps_ret (pe_oget hu (pe_fld (pv 0) rfl) (pv 4) (fun _ _ => rfl)))))), ?_⟩
    refine ⟨_, rfl, _, rfl, _, rfl, (by show 3 ≤ sizeLine; decide), fun b hb => ?_⟩
    have sT := same_upd (o := .tup [.str q, .str kd, oS o]) hb
    have bq : (upd H b (.tup [.str q, .str kd, oS o])) b = some (.tup ((cKey q kd o).map oKV)) := by rw [upd_same, cKey_v]
    have hC1 := hC.same sT
    have hN1 := hN.same sT
    have s1 : Sa2 ae al H (upd H b (.tup [.str q, .str kd, oS o])) := Sa2.of sT
    generalize upd H b (.tup [.str q, .str kd, oS o]) = H1 at sT bq hC1 hN1 s1 ⊢
    obtain ⟨dc, ke, kl, c0, nae, de, dl, re, rl, le, ll⟩ := hC1.at_
    refine ⟨_, rfl, _, rfl, c, _, dc, _, _, rfl, c0, Z.cl, Z.n4, cf4, al, b, kl, cKey q kd o, rfl, rfl, dl, bq, _, rfl, ?_⟩
    cases hv : oVal kl (cKey q kd o) with
    | some v =>
      refine ifN rfl ?_
      obtain ⟨r, hr1, er, ev⟩ := oVal_mem hv
      obtain ⟨q2, k2, h2, o2, oh2, oz2, e1, e2, e4, e5⟩ := rl r hr1
      obtain ⟨rfl, rfl, rfl⟩ := cKey_inj (er.symm.trans e1)
      obtain ⟨rfl, rfl⟩ := hq.uniq e4
      have eo : leadS kd oh oz2 = leadS kd oh oz := leadS_oz fun z => by
        obtain ⟨z1, g1, g2⟩ := e5 z
        obtain ⟨z3, g3, g4⟩ := hz z
        rw [g1] at g3
        rw [← Option.some.inj g3] at g4
        exact Option.some.inj (g2.symm.trans g4)
      have ev2 : v = .int (leadS kd oh oz) := (ev.symm.trans e2).trans (by rw [eo])
      subst ev2
      exact ⟨_, rfl, c, _, dc, _, _, rfl, c0, Z.cl, Z.n4, cf4, _, rfl, al, b, kl, cKey q kd o, _, rfl, rfl, dl, bq, hv, k H1 ⟨dc, ke, kl, c0, nae, de, dl, re, rl, by omega, by omega⟩ s1⟩
    | none =>
      refine ifB rfl ?_
      refine ⟨_, rfl, c, _, dc, _, _, rfl, c0, Z.cl, Z.n1, cf1, _, rfl, _, rfl, _, rfl, ?_⟩
      refine ⟨x, st, q, h, kd, oh, oz, o, rfl, hN1, hq, hz, ?_⟩
      refine ⟨_, rfl, c, _, dc, _, _, rfl, c0, Z.cl, Z.n4, cf4, _, rfl, al, b, kl, cKey q kd o, rfl, rfl, dl, bq, hv, by rw [sizeLine_eq]; omega, ?_⟩
      have sx : SaX H1 (upd H1 al (odO P w al (kl ++ [(cKey q kd o, b, V.int (leadS kd oh oz))]))) := SaX.upd dl.at_
      have c3 := sx _ _ c0 (fun _ => nofun)
      have b3 := sx _ _ bq (fun _ => nofun)
      have dl3 : OD P w (upd H1 al (odO P w al (kl ++ [(cKey q kd o, b, V.int (leadS kd oh oz))]))) al (kl ++ [(cKey q kd o, b, V.int (leadS kd oh oz))]) := ⟨upd_same, fun r hr => by
        rcases List.mem_append.mp hr with hr | hr
        · exact sx _ _ (dl.keys r hr) (fun _ => nofun)
        · rw [List.mem_singleton.mp hr]
          exact b3⟩
      have de3 : OD P w (upd H1 al (odO P w al (kl ++ [(cKey q kd o, b, V.int (leadS kd oh oz))]))) ae ke := ⟨by rw [upd_ne nae]; exact de.at_, fun r hr => sx _ _ (de.keys r hr) (fun _ => nofun)⟩
      have re3 : ∀ r ∈ ke, EffRow (upd H1 al (odO P w al (kl ++ [(cKey q kd o, b, V.int (leadS kd oh oz))]))) st en r := fun r hr => by
        obtain ⟨q2, k2, h2, o2, oh2, oz2, t2, k2', o2', m2, rd2, e1, e2, e3, e4⟩ := re r hr
        exact ⟨q2, k2, h2, o2, oh2, oz2, t2, k2', o2', m2, rd2, e1, e2, sx _ _ e3 (fun _ => nofun), e4⟩
      have rl3 : ∀ r ∈ kl ++ [(cKey q kd o, b, V.int (leadS kd oh oz))], LeadRow st r := fun r hr => by
        rcases List.mem_append.mp hr with hr | hr
        · exact rl r hr
        · rw [List.mem_singleton.mp hr]
          exact ⟨q, kd, h, o, oh, oz, rfl, rfl, hq, hz⟩
      refine ⟨_, rfl, c, _, dc, _, _, rfl, c3, Z.cl, Z.n4, cf4, _, rfl, al, b, kl ++ [(cKey q kd o, b, V.int (leadS kd oh oz))], cKey q kd o, V.int (leadS kd oh oz), rfl, rfl, dl3, b3, oVal_snoc hv, ?_⟩
      exact k _ ⟨dc, ke, _, c3, nae, de3, dl3, re3, rl3, by omega, by rw [List.length_append, List.length_singleton]; omega⟩ (s1.trans fun b o z _ m => by rw [upd_ne m]; exact z)
structure MCop (P : Program) (w : World) (K : PySem.W.Frag) (mg : Str → Option Value) (base : Heap) : Prop where
  lead : Md P w K mg base (He.ga K "Copier") CX0 5 "lead" ["self", "p", "kind", "zone"] (spCLead P w (He.ga K "Copier") (He.ga K "Net"))
theorem cf_none {x ae al : Addr} {en : Int} {m : Str} (h : m ∉ (["_net", "_end", "_effects", "_leads"] : List Str)) : (cFs x en ae al).lookup m = none := by
  simp only [List.mem_cons, List.not_mem_nil, or_false, not_or] at h
  obtain ⟨h1, h2, h3, h4⟩ := h
  unfold cFs
  rw [lookup_putF, if_neg h4, lookup_putF, if_neg h3, lookup_putF, if_neg h2, lookup_putF, if_neg h1]
  rfl
theorem scDay : FnScope ["self", "p", "kind", "zone", "minutes"] ["self", "p", "kind", "zone", "minutes"] (defScope (inClass (top i_Copier) j_Copier_day)) := ⟨rfl, rfl, rfl, by decide +kernel, rfl, by decide +kernel, by decide +kernel⟩
theorem ok_day (F : FunD K "day" "Copier.day" (defArgs (inClass (top i_Copier) j_Copier_day)) (defBody (inClass (top i_Copier) j_Copier_day)) (defScope (inClass (top i_Copier) j_Copier_day)) [] [] f fd) (T : Tx K mg) (Z : Tc K mg) (M : MCop P w K mg base) :
    FnOk P w K mg base CX0 6 f fd ["self", "p", "kind", "zone", "minutes"] (spDay P w (He.ga K "Copier") (He.ga K "Net")) := by
  refine F.ok scDay (fun vs H Q E h => ?_) (fun cdv A outer s H vs Q E hr h => ?_)
  · obtain ⟨c, x, ae, al, st, q, h, kd, oh, oz, en, m, o, n, rfl, _⟩ := h
    rfl
  · obtain ⟨c, x, ae, al, st, q, h, kd, oh, oz, en, m, o, n, rfl, hC, hn, hN, hq, hz, k⟩ := h
    obtain ⟨tD, hD⟩ := T.DAY
    refine ⟨_, PSs.nox (pss_one (ps_ret (pe_op op_fdiv (pe_op op_add (pv 4) (pe_md M.lead (pv 0) Z.cl (hr.mono (by decide)) pass0 (pa_cons (pv 1) (pa_cons (pv 2) (pa_cons (pv 3) pa_nil))))) (pe_glob (v := .int 1440) rfl hD ⟨_, rfl⟩)))), ?_⟩
    obtain ⟨dc, ke, kl, c0, _⟩ := hC.at_
    refine ⟨_, rfl, _, rfl, c, dc, _, rfl, c0, cf_none (by decide +kernel), _, rfl, _, rfl, _, rfl, c, x, ae, al, st, q, h, kd, oh, oz, en, o, n, rfl, hC, hn, hN, hq, hz, fun H' hC' sx => ?_⟩
    exact ⟨_, _, rfl, rfl, _, _, rfl, rfl, ⟨by decide, by decide⟩, k H' hC' sx⟩
end
end Wd
end
section
set_option Elab.async false
set_option linter.all false
set_option maxRecDepth 100000
set_option maxHeartbeats 1000000
namespace Wd
open PySem PySem.Spec PyProof.Rows L2 Wt TL NumText
/-- minutes behind a copy -/
def carS (rd : Bool) (v : Int) : Int := if rd = true then v - v % 1440 else v
def spCarry (P : Program) (w : World) (C Cn : Addr) : Sp := fun vs H Q _ => ∃ (c x ae al : Addr) (s : PSt) (q h k : Str) (oh oz en v : Int) (o : Option Str) (n : Nat), vs = [.ref c, .str q, .str k, oS o, .int v] ∧ CopAt P w C c x en ae al n H s ∧ n < 1000 ∧ NetAt Cn x H s ∧ KnownP s q h oh ∧ KnownZ s k o oz ∧ k ∈ KS ∧
  RuleD k (ruleS s.rs q k) ∧ (en = 0 ∨ en = 1) ∧ ∀ k' o' m rd t H', EffS h oh oz k o (ruleS s.rs q k) en k' o' m rd → CopAt P w C c x en ae al (n + 1) H' s → Sa2 ae al H H' → H' t = some (.tup [.str k', oS o', .int (carS rd (v + m))]) → Q (.ref t) H'
section
variable {P : Program} {w : World} {K : PySem.W.Frag} {mg : Str → Option Value} {base : Heap} {f : Addr} {fd : FuncData}
end
end Wd
end
section
set_option Elab.async false
set_option linter.all false
set_option maxRecDepth 100000
set_option maxHeartbeats 1000000
namespace Wd
open PySem PySem.Spec PyProof.Rows L2 Wt TL NumText
/-- the places of two copiers -/
structure PC where
  c1 : Addr
  e1 : Addr
  l1 : Addr
  c2 : Addr
  e2 : Addr
  l2 : Addr
/-- at t the copiers of both ends -/
structure CopsAt (P : Program) (w : World) (C t x : Addr) (p : PC) (n : Nat) (H : Hp) (s : PSt) : Prop where
  at_ : H t = some (.tup [.ref p.c1, .ref p.c2])
  one : CopAt P w C p.c1 x 0 p.e1 p.l1 n H s
  two : CopAt P w C p.c2 x 1 p.e2 p.l2 n H s
  n1 : p.e1 ≠ p.e2
  n2 : p.e1 ≠ p.l2
  n3 : p.l1 ≠ p.e2
  n4 : p.l1 ≠ p.l2
/-- all but the four dicts as it was -/
def Sa4 (p : PC) (H H' : Hp) : Prop := ∀ b o, H b = some o → b ≠ p.e1 → b ≠ p.l1 → b ≠ p.e2 → b ≠ p.l2 → H' b = some o
theorem Sa4.of {p : PC} {H H' : Hp} (e : Same H H') : Sa4 p H H' := fun b o h _ _ _ _ => e b o h
theorem Sa4.trans {p : PC} {H H1 H2 : Hp} (x : Sa4 p H H1) (y : Sa4 p H1 H2) : Sa4 p H H2 := fun b o h n1 n2 n3 n4 => y b o (x b o h n1 n2 n3 n4) n1 n2 n3 n4
section
variable {P : Program} {w : World} {C c c' x : Addr} {en en' : Int} {e l e' l' : Addr} {n n' : Nat} {H H' : Hp} {s : PSt}
theorem CopAt.exts (h : CopAt P w C c x en e l n H s) : (∃ φ, H e = some (.ext φ)) ∧ ∃ φ, H l = some (.ext φ) := by
  obtain ⟨dc, ke, kl, h1, h2, h3, h4, _⟩ := h.at_
  exact ⟨⟨_, h3.at_⟩, ⟨_, h4.at_⟩⟩
/-- what one copier keeps doesn't touch another one -/
theorem CopAt.other (b : Sa2 e l H H') (h : CopAt P w C c x en e l n H s) (h' : CopAt P w C c' x en' e' l' n' H s) (n1 : e ≠ e') (n2 : e ≠ l') (n3 : l ≠ e') (n4 : l ≠ l') : CopAt P w C c' x en' e' l' n' H' s := by
  obtain ⟨⟨φ1, x1⟩, ⟨φ2, x2⟩⟩ := h.exts
  obtain ⟨dc, ke, kl, g1, g2, g3, g4, g5, g6, g7, g8⟩ := h'.at_
  have nx : ∀ a o, H a = some o → (∀ φ, o ≠ .ext φ) → H' a = some o := fun a o q m => b a o q (fun z => by rw [z, x1] at q; exact m φ1 (Option.some.inj q).symm) (fun z => by rw [z, x2] at q; exact m φ2 (Option.some.inj q).symm)
  refine ⟨dc, ke, kl, nx _ _ g1 (fun _ => nofun), g2, ⟨b _ _ g3.at_ n1.symm n3.symm, fun r hr => nx _ _ (g3.keys r hr) (fun _ => nofun)⟩, ⟨b _ _ g4.at_ n2.symm n4.symm, fun r hr => nx _ _ (g4.keys r hr) (fun _ => nofun)⟩, fun r hr => ?_, g6, g7, g8⟩
  obtain ⟨q2, k2, h2, o2, oh2, oz2, t2, k2', o2', m2, rd2, e1, e2, e3, e4⟩ := g5 r hr
  exact ⟨q2, k2, h2, o2, oh2, oz2, t2, k2', o2', m2, rd2, e1, e2, nx _ _ e3 (fun _ => nofun), e4⟩
end
def spCopiers (P : Program) (w : World) (C : Addr) : Sp := fun vs H Q _ => ∃ x : Addr, vs = [.ref x] ∧
  ∀ t p H', Same H H' → H t = none → H p.e1 = none → H p.l1 = none → H p.e2 = none → H p.l2 = none → (∀ s, CopsAt P w C t x p 0 H' s) → Q (.ref t) H'
section
variable {P : Program} {w : World} {K : PySem.W.Frag} {mg : Str → Option Value} {base : Heap} {f : Addr} {fd : FuncData}
structure DCops (P : Program) (w : World) (K : PySem.W.Frag) (mg : Str → Option Value) (base : Heap) : Prop where
  mkC : Mk K (He.ga K "Copier") (He.ma K (He.ga K "Copier") "__init__")
  ini : ∃ fd, FnOk P w K mg base CX0 1 (He.ma K (He.ga K "Copier") "__init__") fd ["self", "net", "end"] (spCInit P w (He.ga K "Copier")) ∧ Binds K fd ["self", "net", "end"] []
  glob : mg "Copier" = some (.ref (He.ga K "Copier"))
theorem scCopiers : FnScope ["net"] ["net"] (defScope (top i__copiers)) := ⟨rfl, rfl, rfl, by decide +kernel, rfl, by decide +kernel, by decide +kernel⟩
theorem ok_copiers (F : FnG K "_copiers" i__copiers f fd) (D : DCops P w K mg base) : FnOk P w K mg base CX0 3 f fd ["net"] (spCopiers P w (He.ga K "Copier")) := by
  refine F.ok scCopiers (fun vs H Q E h => ?_) (fun cdv A outer s H vs Q E hr h => ?_)
  · obtain ⟨x, rfl, _⟩ := h
    rfl
  · obtain ⟨x, rfl, k⟩ := h
    obtain ⟨fdI, GI, bI⟩ := D.ini
    refine ⟨_, PSs.nox (pss_one (ps_ret (pe_tup (pa_cons (pe_make D.mkC GI (hr.mono (by decide)) rfl D.glob bI .nil pass0 (pa_cons (pv 0) (pa_cons pe_int pa_nil))) (pa_cons (pe_make D.mkC GI (hr.mono (by decide)) rfl D.glob bI .nil pass0 (pa_cons (pv 0) (pa_cons pe_int pa_nil))) pa_nil))))), ?_⟩
    have step : ∀ (H0 H1 : Hp) (c dc : Addr), H0 c = none → H0 dc = none → (∀ a o, (upd (upd H0 dc (.own c)) c (.ins (He.ga K "Copier") dc [])) a = some o → a ≠ c → H1 a = some o) → Same H0 H1 ∧ ∀ a, (upd (upd H0 dc (.own c)) c (.ins (He.ga K "Copier") dc [])) a = none → H0 a = none := fun H0 H1 c dc h1 h2 fr =>
      ⟨fun a o z => fr a o (by rw [upd_ne (ne_of_none z h1), upd_ne (ne_of_none z h2)]; exact z) (ne_of_none z h1), fun a z => by
        cases q : H0 a with
        | none => rfl
        | some o => rw [upd_ne (ne_of_none q h1), upd_ne (ne_of_none q h2), q] at z; cases z⟩
    refine ⟨_, rfl, fun c1 d1 hc1 hd1 nd1 => ⟨c1, d1, x, 0, rfl, upd_same, fun H1 e1 l1 fr1 he1 hl1 cop1 => ⟨rfl, ?_⟩⟩⟩
    obtain ⟨s1, fx1⟩ := step H H1 c1 d1 hc1 hd1 fr1
    refine ⟨_, rfl, fun c2 d2 hc2 hd2 nd2 => ⟨c2, d2, x, 1, rfl, upd_same, fun H2 e2 l2 fr2 he2 hl2 cop2 => ⟨rfl, (by show 2 ≤ sizeLine; decide), fun t ht => ?_⟩⟩⟩
    obtain ⟨s2, fx2⟩ := step H1 H2 c2 d2 hc2 hd2 fr2
    have sT := same_upd (o := .tup [.ref c1, .ref c2]) ht
    have back : ∀ a : Addr, H1 a = none → H a = none := fun a z => Same.free s1 z
    obtain ⟨⟨φ1, x1⟩, ⟨φ2, x2⟩⟩ := (cop1 ps0).exts
    have g2 := fx2 _ he2
    have g4 := fx2 _ hl2
    exact k t ⟨c1, e1, l1, c2, e2, l2⟩ _ ((s1.trans s2).trans sT) (Same.free (s1.trans s2) ht) (fx1 _ he1) (fx1 _ hl1) (back _ g2) (back _ g4) fun s =>
      ⟨upd_same, ((cop1 s).same s2).same sT, (cop2 s).same sT, ne_of_none x1 g2, ne_of_none x1 g4, ne_of_none x2 g2, ne_of_none x2 g4⟩
end
end Wd
end
section
set_option Elab.async false
set_option linter.all false
set_option maxRecDepth 100000
set_option maxHeartbeats 1000000
namespace Wd
open PySem PySem.Spec PyProof.Rows L2 Wt TL NumText
theorem CopAt.sax {P : Program} {w : World} {C c x : Addr} {en : Int} {e l : Addr} {n : Nat} {H H' : Hp} {s : PSt} (h : CopAt P w C c x en e l n H s) (b : Sa2 e l H H') : SaX H H' := fun a o q m => by
  obtain ⟨⟨φ1, x1⟩, ⟨φ2, x2⟩⟩ := h.exts
  exact b a o q (fun z => by rw [z, x1] at q; exact m φ1 (Option.some.inj q).symm) (fun z => by rw [z, x2] at q; exact m φ2 (Option.some.inj q).symm)
theorem Sa4.one {p : PC} {H H' : Hp} (b : Sa2 p.e1 p.l1 H H') : Sa4 p H H' := fun a o h n1 n2 _ _ => b a o h n1 n2
theorem Sa4.two {p : PC} {H H' : Hp} (b : Sa2 p.e2 p.l2 H H') : Sa4 p H H' := fun a o h _ _ n3 n4 => b a o h n3 n4
theorem CopAt.le {P : Program} {w : World} {C c x : Addr} {en : Int} {e l : Addr} {n m : Nat} {H : Hp} {s : PSt} (h : CopAt P w C c x en e l n H s) (le : n ≤ m) : CopAt P w C c x en e l m H s := by
  obtain ⟨dc, ke, kl, h1, h2, h3, h4, h5, h6, h7, h8⟩ := h.at_
  exact ⟨dc, ke, kl, h1, h2, h3, h4, h5, h6, Nat.le_trans h7 le, Nat.le_trans h8 le⟩
def spDays (P : Program) (w : World) (C Cn : Addr) : Sp := fun vs H Q _ => ∃ (tc x th : Addr) (pc : PC) (s : PSt) (p h k : Str) (oh oz a b : Int) (o : Option Str) (n : Nat), vs = [.ref tc, .str p, .ref th] ∧ CopsAt P w C tc x pc n H s ∧ n < 1000 ∧ NetAt Cn x H s ∧ KnownP s p h oh ∧ KnownZ s k o oz ∧
  H th = some (.tup (heldV k o a b)) ∧ ∀ t H', CopsAt P w C tc x pc (n + 1) H' s → Sa4 pc H H' → H' t = some (.tup [.int ((a + leadS k oh oz) / 1440), .int ((b + leadS k oh oz) / 1440)]) → Q (.ref t) H'
section
variable {P : Program} {w : World} {K : PySem.W.Frag} {mg : Str → Option Value} {base : Heap} {f : Addr} {fd : FuncData}
structure MDay (P : Program) (w : World) (K : PySem.W.Frag) (mg : Str → Option Value) (base : Heap) : Prop where
  day : Md P w K mg base (He.ga K "Copier") CX0 6 "day" ["self", "p", "kind", "zone", "minutes"] (spDay P w (He.ga K "Copier") (He.ga K "Net"))
theorem scDays : FnScope ["copiers", "p", "held", "kind", "zone", "first", "last"] ["copiers", "p", "held"] (defScope (top i__days)) := ⟨rfl, rfl, rfl, by decide +kernel, rfl, by decide +kernel, by decide +kernel⟩
theorem ok_days (F : FnG K "_days" i__days f fd) (Z : Tc K mg) (M : MDay P w K mg base) : FnOk P w K mg base CX0 7 f fd ["copiers", "p", "held"] (spDays P w (He.ga K "Copier") (He.ga K "Net")) := by
  refine F.ok scDays (fun vs H Q E h => ?_) (fun cdv A outer s H vs Q E hr h => ?_)
  · obtain ⟨tc, x, th, pc, st, p, h, kd, oh, oz, a, b, o, n, rfl, _⟩ := h
    rfl
  · obtain ⟨tc, x, th, pc, st, p, h, kd, oh, oz, a, b, o, n, rfl, hC, hn, hN, hp, hz, hth, k⟩ := h
    refine ⟨_, PSs.nox (pss_cons (ps_asg (pv 2) (pg_tup rfl (pgs_cons (pg_name (i := 3) scDays.nd rfl (Or.inl rfl)) (pgs_cons (pg_name (i := 4) scDays.nd rfl (Or.inl rfl)) (pgs_cons (pg_name (i := 5) scDays.nd rfl (Or.inl rfl)) (pgs_cons (pg_name (i := 6) scDays.nd rfl (Or.inl rfl)) pgs_nil))))))
        (pss_one (ps_ret (pe_tup (pa_cons (pe_md M.day (pe_ix ix_tup (pv 0) pe_int (fun _ _ => rfl)) Z.cl (hr.mono (by decide)) pass0 (pa_cons (pv 1) (pa_cons (pv 3) (pa_cons (pv 4) (pa_cons (pv 5) pa_nil))))) (pa_cons (pe_md M.day (pe_ix ix_tup (pv 0) pe_int (fun _ _ => rfl)) Z.cl (hr.mono (by decide)) pass0 (pa_cons (pv 1) (pa_cons (pv 3) (pa_cons (pv 4) (pa_cons (pv 6) pa_nil))))) pa_nil)))))), ?_⟩
    refine ⟨_, rfl, th, _, rfl, SqT.of hth, rfl, _, _, rfl, _, _, rfl, _, _, rfl, _, _, rfl, rfl, ?_⟩
    obtain ⟨dc1, ke1, kl1, c1, _⟩ := hC.one.at_
    obtain ⟨dc2, ke2, kl2, c2, _⟩ := hC.two.at_
    refine ⟨_, rfl, tc, _, _, .ref pc.c1, rfl, rfl, SqT.of hC.at_, rfl, pc.c1, dc1, _, rfl, c1, cf_none (by decide +kernel), _, rfl, _, rfl, _, rfl, _, rfl, pc.c1, x, pc.e1, pc.l1, st, p, h, kd, oh, oz, 0, a, o, n, rfl, hC.one, hn, hN, hp, hz, fun H1 cp1 sa1 => ?_⟩
    have sx1 := hC.one.sax sa1
    have two1 := hC.one.other sa1 hC.two hC.n1 hC.n2 hC.n3 hC.n4
    have t1 := sx1 _ _ hC.at_ (fun _ => nofun)
    have c21 := sx1 _ _ c2 (fun _ => nofun)
    have hN1 := hN.sax sx1
    refine ⟨_, rfl, tc, _, _, .ref pc.c2, rfl, rfl, SqT.of t1, rfl, pc.c2, dc2, _, rfl, c21, cf_none (by decide +kernel), _, rfl, _, rfl, _, rfl, _, rfl, pc.c2, x, pc.e2, pc.l2, st, p, h, kd, oh, oz, 1, b, o, n, rfl, two1, hn, hN1, hp, hz, fun H2 cp2 sa2 => ?_⟩
    have sx2 := two1.sax sa2
    have one2 := cp1
    have t2 := sx2 _ _ t1 (fun _ => nofun)
    have cp1' := two1.other sa2 cp1 hC.n1.symm hC.n3.symm hC.n2.symm hC.n4.symm
    refine ⟨(by show 2 ≤ sizeLine; decide), fun t ht => ?_⟩
    have sT := same_upd (o := .tup [.int ((a + leadS kd oh oz) / 1440), .int ((b + leadS kd oh oz) / 1440)]) ht
    exact k t _ ⟨sT _ _ t2, cp1'.same sT, cp2.same sT, hC.n1, hC.n2, hC.n3, hC.n4⟩ (((Sa4.one sa1).trans (Sa4.two sa2)).trans (Sa4.of sT)) upd_same
end
end Wd
end
section
set_option Elab.async false
set_option linter.all false
set_option maxRecDepth 100000
set_option maxHeartbeats 1000000
namespace Wd
open PySem PySem.Spec PyProof.Rows L2 Wt TL NumText
def spCopy (P : Program) (w : World) (C Cn : Addr) : Sp := fun vs H Q _ => ∃ (tc x th : Addr) (pc : PC) (s : PSt) (q h k : Str) (oh oz a b : Int) (o : Option Str) (n : Nat), vs = [.ref tc, .str q, .ref th] ∧ CopsAt P w C tc x pc n H s ∧ n < 1000 ∧ NetAt Cn x H s ∧ KnownP s q h oh ∧ KnownZ s k o oz ∧
  k ∈ KS ∧ RuleD k (ruleS s.rs q k) ∧ H th = some (.tup (heldV k o a b)) ∧
  ∀ k1 o1 m1 rd1 k2 o2 m2 rd2 t H', EffS h oh oz k o (ruleS s.rs q k) 0 k1 o1 m1 rd1 → EffS h oh oz k o (ruleS s.rs q k) 1 k2 o2 m2 rd2 → CopsAt P w C tc x pc (n + 1) H' s → Sa4 pc H H' →
    H' t = some (.tup (heldV k2 o2 (carS rd1 (a + m1)) (carS rd2 (b + m2)))) → Q (.ref t) H'
section
variable {P : Program} {w : World} {K : PySem.W.Frag} {mg : Str → Option Value} {base : Heap} {f : Addr} {fd : FuncData}
structure MCarry (P : Program) (w : World) (K : PySem.W.Frag) (mg : Str → Option Value) (base : Heap) : Prop where
  carry : Md P w K mg base (He.ga K "Copier") CX0 7 "carry" ["self", "q", "kind", "zone", "minutes"] (spCarry P w (He.ga K "Copier") (He.ga K "Net"))
end
end Wd
end
section
set_option Elab.async false
set_option linter.all false
set_option maxRecDepth 100000
set_option maxHeartbeats 1000000
namespace Wd
open PySem PySem.Spec PyProof.Rows L2 Wt TL NumText
/-- what two copies by one rule have in common -/
theorem EffS.both {h : Str} {oh oz : Int} {k : Str} {o : Option Str} {r : Str} {en en' : Int} {k1 k2 : Str} {o1 o2 : Option Str} {m1 m2 : Int} {rd1 rd2 : Bool} (x : EffS h oh oz k o r en k1 o1 m1 rd1) (y : EffS h oh oz k o r en' k2 o2 m2 rd2) :
    k1 = k2 ∧ o1 = o2 ∧ rd1 = rd2 ∧ (en = en' → m1 = m2) ∧ (en = 0 → m1 ≤ m2) := by
  cases x with
  | keep e =>
    cases y with
    | keep e' => exact ⟨rfl, rfl, rfl, fun _ => rfl, fun _ => Int.le_refl _⟩
    | day t b e' hk hn _ _ _ _ _ => exact absurd e hn
    | clock t m hk hn _ => exact absurd e hn
  | day t b e hk hn er ht b0 be el =>
    cases y with
    | keep e' => exact absurd e' hn
    | clock t m hk' hn _ => exact absurd hk hk'
    | day t' b' e' hk' hn' er' ht' b0' be' el' =>
      have w1 := day_words (b := b) (e := e) ht
      have w2 := day_words (b := b') (e := e') ht'
      rw [← er, er', w2] at w1
      injection w1 with q1 q2
      injection q2 with q2 q3
      injection q3 with q3 _
      subst q1
      have eb := strI_inj q2
      have ee := strI_inj q3
      subst eb
      subst ee
      refine ⟨rfl, rfl, rfl, fun e => by rw [e], fun e => ?_⟩
      rw [if_pos e]
      split <;> omega
  | clock t m hk hn et =>
    cases y with
    | keep e' => exact absurd e' hn
    | day t b e' hk' hn _ _ _ _ _ => exact absurd hk' hk
    | clock t' m' hk' hn' et' =>
      rw [et] at et'
      injection et' with q1 q2
      subst q1
      subst q2
      exact ⟨rfl, rfl, rfl, fun _ => rfl, fun _ => Int.le_refl _⟩
theorem getS_mem {β : Type} {zs : List (Str × β)} {z : Str} {o : β} (h : getS zs z = some o) : (z, o) ∈ zs := by
  unfold getS at h
  cases q : zs.find? fun x => decide (x.1 = z) with
  | none => rw [q] at h; cases h
  | some x =>
    rw [q] at h
    have e1 : x.2 = o := Option.some.inj h
    have e2 : x.1 = z := of_decide_eq_true (by simpa using List.find?_some q)
    have e3 := List.mem_of_find?_eq_some q
    rw [← e1, ← e2]
    exact e3
/-- a net that is read: names, bounds, rules -/
structure GoodS (s : PSt) : Prop where
  zb : ∀ z ∈ s.zs, nameL (tl z.1) ∧ -840 ≤ z.2 ∧ z.2 ≤ 840
  rd : ∀ q k, k ∈ KS → RuleD k (ruleS s.rs q k)
  os : ∀ r ∈ s.os, nameL (tl r.1) ∧ nameL (tl r.2)
theorem GoodS.off {s : PSt} (g : GoodS s) {z : Str} {o : Int} (h : getS s.zs z = some o) : nameL (tl z) ∧ -840 ≤ o ∧ o ≤ 840 := g.zb _ (getS_mem h)
theorem KnownZ.uniq {s : PSt} {k : Str} {o : Option Str} {x y : Int} (h : KnownZ s k o x) (h' : KnownZ s k o y) : k = "zoned" → x = y := fun e => by
  obtain ⟨z, e1, e2⟩ := h e
  obtain ⟨z', e1', e2'⟩ := h' e
  rw [e1] at e1'
  cases e1'
  rw [e2] at e2'
  exact Option.some.inj e2'
/-- how one point is copied -/
def HalfS (s : PSt) (q : Str) (en : Int) (k : Str) (o : Option Str) (a : Int) (k' : Str) (o' : Option Str) (a' : Int) : Prop :=
  ∃ h oh oz m rd, KnownP s q h oh ∧ KnownZ s k o oz ∧ EffS h oh oz k o (ruleS s.rs q k) en k' o' m rd ∧ a' = carS rd (a + m)
theorem carS_mono {rd : Bool} {x y : Int} (h : x ≤ y) : carS rd x ≤ carS rd y := by
  unfold carS
  cases rd
  · exact h
  · show x - x % 1440 ≤ y - y % 1440
    have h1 := Int.ediv_le_ediv (show (0 : Int) < 1440 by decide) h
    have e1 := Int.emod_add_mul_ediv x 1440
    have e2 := Int.emod_add_mul_ediv y 1440
    omega
theorem carS_near (rd : Bool) (x : Int) : x - 1440 ≤ carS rd x ∧ carS rd x ≤ x := by
  unfold carS
  cases rd
  · exact ⟨by show x - 1440 ≤ x; omega, Int.le_refl _⟩
  · show x - 1440 ≤ x - x % 1440 ∧ x - x % 1440 ≤ x
    omega
theorem HalfS.both {s : PSt} {q : Str} {en en' : Int} {k : Str} (hk : k ∈ KS) {o : Option Str} {a b : Int} {k1 k2 : Str} {o1 o2 : Option Str} {a' b' : Int} (x : HalfS s q en k o a k1 o1 a') (y : HalfS s q en' k o b k2 o2 b') :
    k1 = k2 ∧ o1 = o2 ∧ (en = en' → a = b → a' = b') ∧ (en = en' → a ≤ b → a' ≤ b') ∧ (en = 0 → a ≤ b → a' ≤ b') := by
  obtain ⟨h, oh, oz, m, rd, x1, x2, x3, rfl⟩ := x
  obtain ⟨h2, oh2, oz2, m2, rd2, y1, y2, y3, rfl⟩ := y
  obtain ⟨e1, e2⟩ := x1.uniq y1
  subst e1
  subst e2
  have y3 := y3.oz hk (fun e => (KnownZ.uniq x2 y2 e).symm)
  obtain ⟨f1, f2, f3, f4, f5⟩ := x3.both y3
  subst f3
  exact ⟨f1, f2, fun e ea => by rw [f4 e, ea], fun e ea => carS_mono (by rw [f4 e]; omega), fun e ea => carS_mono (by have := f5 e; omega)⟩
/-- what is held: kind, zone, minutes of both points -/
structure HR where
  k : Str
  o : Option Str
  a : Int
  b : Int
def CopyR (s : PSt) (q : Str) (r r' : HR) : Prop := HalfS s q 0 r.k r.o r.a r'.k r'.o r'.a ∧ HalfS s q 1 r.k r.o r.b r'.k r'.o r'.b
/-- what may be held -/
structure HOk1 (s : PSt) (B : Int) (r : HR) : Prop where
  kin : r.k ∈ KS
  zo : r.o.isSome = true ↔ r.k = "zoned"
  nm : ∀ n, r.o = some n → nameL (tl n)
  oz : ∃ oz, KnownZ s r.k r.o oz
  le : r.a ≤ r.b
  a1 : -B ≤ r.a
  b1 : r.b ≤ B
theorem tam_kin {oh oz : Int} {k r : Str} (hk : k ∈ KS) (hd : k ≠ "day") (hr : RuleD k r) (hn : r ≠ "keep") : (tamS oh oz k r).1 ∈ KS := by
  have hm : r ∈ rulesFor k := by
    rcases hr with ⟨_, h⟩ | ⟨h, _⟩
    · exact h
    · exact absurd h hd
  have all : ∀ k ∈ KS, k ≠ "day" → ∀ r ∈ rulesFor k, r ≠ "keep" → (tamS 0 0 k r).1 ∈ KS := by
    intro k hk
    simp only [KS, List.mem_cons, List.not_mem_nil, or_false] at hk
    rcases hk with rfl | rfl | rfl | rfl <;> decide +kernel
  have e : ∀ x y : Int, (tamS x y k r).1 = (tamS 0 0 k r).1 := fun x y => by
    unfold tamS
    repeat' split
    all_goals rfl
  rw [e]
  exact all k hk hd r hm hn
theorem tam_near {oh oz : Int} {k r : Str} (h1 : -840 ≤ oh) (h2 : oh ≤ 840) (h3 : -840 ≤ oz) (h4 : oz ≤ 840) : -1680 ≤ (tamS oh oz k r).2 ∧ (tamS oh oz k r).2 ≤ 1680 := by
  unfold tamS
  repeat' split
  all_goals (dsimp only; omega)
theorem copied_ok {s : PSt} {q hm : Str} {oh oz : Int} {k k' : Str} {o o' : Option Str} {m : Int} {rd : Bool} {en : Int} (x1 : KnownP s q hm oh) (x3 : EffS hm oh oz k o (ruleS s.rs q k) en k' o' m rd) (hk : k ∈ KS) (hzo : o.isSome = true ↔ k = "zoned") (hnm : ∀ n, o = some n → nameL (tl n))
    (hoz : ∃ oz, KnownZ s k o oz) (nh : nameL (tl hm)) (rd0 : RuleD k (ruleS s.rs q k)) : k' ∈ KS ∧ (o'.isSome = true ↔ k' = "zoned") ∧ (∀ n, o' = some n → nameL (tl n)) ∧ ∃ oz, KnownZ s k' o' oz := by
  have rest : ∀ t : Str, t ∈ KS → t ∈ KS ∧ ((if t = "zoned" then some hm else none).isSome = true ↔ t = "zoned") ∧ (∀ n, (if t = "zoned" then some hm else none) = some n → nameL (tl n)) ∧ ∃ oz, KnownZ s t (if t = "zoned" then some hm else none) oz := fun t ht => by
    refine ⟨ht, ?_, fun n hn => ?_, oh, fun z => ⟨hm, by rw [if_pos z], x1.zs⟩⟩
    · by_cases z : t = "zoned"
      · rw [if_pos z]; exact ⟨fun _ => z, fun _ => rfl⟩
      · rw [if_neg z]; exact ⟨fun y => (by cases y), fun y => absurd y z⟩
    · split at hn
      · cases hn; exact nh
      · cases hn
  cases x3 with
  | keep e => exact ⟨hk, hzo, hnm, hoz⟩
  | day t b e hk' hn er ht b0 be el =>
    have : ∀ t ∈ (["float", "zoned", "fixed"] : List Str), t ∈ KS := by decide +kernel
    exact rest _ (this _ ht)
  | clock t m hk' hn et =>
    have := tam_kin (oh := oh) (oz := oz) hk hk' rd0 hn
    rw [et] at this
    exact rest _ this
theorem CopyR.ok {s : PSt} (g : GoodS s) {q : Str} {B : Int} {r r' : HR} (c : CopyR s q r r') (h : HOk1 s B r) : HOk1 s (B + 5000) r' := by
  obtain ⟨c1, c2⟩ := c
  obtain ⟨_, _, _, _, ord⟩ := HalfS.both h.kin c1 c2
  obtain ⟨hm, oh, oz, m, rd, x1, x2, x3, x4⟩ := c1
  obtain ⟨hm2, oh2, oz2, m2, rd2, y1, y2, y3, y4⟩ := c2
  obtain ⟨nh, o1, o2⟩ := g.off x1.zs
  have e12 := x1.uniq y1
  obtain ⟨nh2, p1, p2⟩ := g.off y1.zs
  have zb : ∀ oz, KnownZ s r.k r.o oz → r.k = "zoned" → -840 ≤ oz ∧ oz ≤ 840 := fun oz kz e => by
    obtain ⟨z, _, ez⟩ := kz e
    exact (g.off ez).2
  have rd0 := g.rd q r.k h.kin
  have near : ∀ {hm : Str} {oh oz en : Int} {k' : Str} {o' : Option Str} {m : Int} {rd : Bool}, -840 ≤ oh → oh ≤ 840 → KnownZ s r.k r.o oz → EffS hm oh oz r.k r.o (ruleS s.rs q r.k) en k' o' m rd → -1680 ≤ m ∧ m ≤ 2279 := by
    intro hm oh oz en k' o' m rd h1 h2 kz ef
    cases ef with
    | keep e => omega
    | day t b e hk hn er ht b0 be el => split <;> split <;> omega
    | clock t m hk hn et =>
      by_cases ez : r.k = "zoned"
      · obtain ⟨z1, z2⟩ := zb oz kz ez
        have := tam_near (k := r.k) (r := ruleS s.rs q r.k) h1 h2 z1 z2
        rw [et] at this
        omega
      · have e0 : tamS oh oz r.k (ruleS s.rs q r.k) = tamS oh 0 r.k (ruleS s.rs q r.k) := by
          have hk3 : r.k = "float" ∨ r.k = "fixed" := by
            have := h.kin
            simp only [KS, List.mem_cons, List.not_mem_nil, or_false] at this
            rcases this with e | e | e | e
            · exact absurd e hk
            · exact .inl e
            · exact absurd e ez
            · exact .inr e
          unfold tamS
          rcases hk3 with e | e
          · rw [if_pos e, if_pos e]
          · by_cases ef : r.k = "float"
            · rw [if_pos ef, if_pos ef]
            · rw [if_neg ef, if_neg ef, if_pos e, if_pos e]
        have := tam_near (oz := 0) (k := r.k) (r := ruleS s.rs q r.k) h1 h2 (by decide) (by decide)
        rw [← e0, et] at this
        omega
  have n1 := near o1 o2 x2 x3
  have n2 := near p1 p2 y2 y3
  have g1 := carS_near rd (r.a + m)
  have g2 := carS_near rd2 (r.b + m2)
  have := h.le
  have := h.a1
  have := h.b1
  have le' := ord rfl h.le
  have res : r'.k ∈ KS ∧ (r'.o.isSome = true ↔ r'.k = "zoned") ∧ (∀ n, r'.o = some n → nameL (tl n)) ∧ ∃ oz, KnownZ s r'.k r'.o oz := by
    exact copied_ok x1 x3 h.kin h.zo h.nm h.oz nh rd0
  obtain ⟨q1, q2, q3, q4⟩ := res
  exact ⟨q1, q2, q3, q4, le', by omega, by omega⟩
/-- what is held on a walk -/
structure RunW (s : PSt) (ws : List Str) (rows : List HR) : Prop where
  len : rows.length = ws.length
  step : ∀ i q r r', ws[i + 1]? = some q → rows[i]? = some r → rows[i + 1]? = some r' → CopyR s q r r'
theorem RunW.ok {s : PSt} (g : GoodS s) {ws : List Str} {rows : List HR} (h : RunW s ws rows) {B : Int} {r0 : HR} (e0 : rows[0]? = some r0) (h0 : HOk1 s B r0) : ∀ (i : Nat) (r : HR), rows[i]? = some r → HOk1 s (B + 5000 * i) r
  | 0, r, e => by
    rw [e0] at e
    cases e
    have : B + 5000 * ((0 : Nat) : Int) = B := by omega
    rw [this]
    exact h0
  | i + 1, r, e => by
    have l1 : i + 1 < rows.length := (List.getElem?_eq_some_iff.mp e).1
    have l2 : i + 1 < ws.length := by rw [← h.len]; exact l1
    have ih := RunW.ok g h e0 h0 i rows[i] (List.getElem?_eq_getElem (by omega))
    have c := h.step i _ _ r (List.getElem?_eq_getElem l2) (List.getElem?_eq_getElem (by omega)) e
    have := c.ok g ih
    have e5 : B + 5000 * (i : Int) + 5000 = B + 5000 * ((i + 1 : Nat) : Int) := by omega
    rw [e5] at this
    exact this
/-- two runs along one walk -/
theorem RunW.two {s : PSt} (g : GoodS s) {ws : List Str} {rs rs' : List HR} (h : RunW s ws rs) (h' : RunW s ws rs') {B : Int} {r0 r0' : HR} (e0 : rs[0]? = some r0) (e0' : rs'[0]? = some r0') (h0 : HOk1 s B r0) (hk : r0.k = r0'.k) (ho : r0.o = r0'.o) :
    ∀ (i : Nat) (r r' : HR), rs[i]? = some r → rs'[i]? = some r' → r.k = r'.k ∧ r.o = r'.o ∧ (r0.a = r0'.a → r.a = r'.a) ∧ (r0.b = r0'.b → r.b = r'.b) ∧ (r0.a ≤ r0'.a → r.a ≤ r'.a) ∧ (r0.b ≤ r0'.b → r.b ≤ r'.b)
  | 0, r, r', e, e' => by
    rw [e0] at e
    rw [e0'] at e'
    cases e
    cases e'
    exact ⟨hk, ho, id, id, id, id⟩
  | i + 1, r, r', e, e' => by
    have l1 : i + 1 < rs.length := (List.getElem?_eq_some_iff.mp e).1
    have l1' : i + 1 < rs'.length := (List.getElem?_eq_some_iff.mp e').1
    have l2 : i + 1 < ws.length := by rw [← h.len]; exact l1
    have q1 := List.getElem?_eq_getElem (l := rs) (i := i) (by omega)
    have q1' := List.getElem?_eq_getElem (l := rs') (i := i) (by omega)
    obtain ⟨i1, i2, i3, i4, i5, i6⟩ := RunW.two g h h' e0 e0' h0 hk ho i _ _ q1 q1'
    have ok := RunW.ok g h e0 h0 i _ q1
    obtain ⟨c1, c2⟩ := h.step i _ _ r (List.getElem?_eq_getElem l2) q1 e
    obtain ⟨d1, d2⟩ := h'.step i _ _ r' (List.getElem?_eq_getElem l2) q1' e'
    rw [← i1, ← i2] at d1 d2
    obtain ⟨f1, f2, f3, f4, _⟩ := HalfS.both ok.kin c1 d1
    obtain ⟨_, _, g3, g4, _⟩ := HalfS.both ok.kin c2 d2
    exact ⟨f1, f2, fun z => f3 rfl (i3 z), fun z => g3 rfl (i4 z), fun z => f4 rfl (i5 z), fun z => g4 rfl (i6 z)⟩
/-- the day on which a value shows -/
def DayS (s : PSt) (p k : Str) (o : Option Str) (v dd : Int) : Prop := ∃ h oh oz, KnownP s p h oh ∧ KnownZ s k o oz ∧ dd = (v + leadS k oh oz) / 1440
theorem DayS.two {s : PSt} {p k : Str} {o : Option Str} {v v' x y : Int} (h : DayS s p k o v x) (h' : DayS s p k o v' y) : (v = v' → x = y) ∧ (v ≤ v' → x ≤ y) := by
  obtain ⟨n, oh, oz, h1, h2, rfl⟩ := h
  obtain ⟨n', oh', oz', h1', h2', rfl⟩ := h'
  obtain ⟨e1, e2⟩ := h1.uniq h1'
  subst e1
  subst e2
  rw [leadS_oz (KnownZ.uniq h2' h2)]
  exact ⟨fun e => by rw [e], fun e => Int.ediv_le_ediv (by decide) (by omega)⟩
theorem valS_mono {k : Str} {x y : Int} (h : x ≤ y) : valS k x ≤ valS k y := by
  unfold valS
  split
  · exact Int.ediv_le_ediv (by decide) h
  · exact h
theorem valS_min (k : Str) (v : Int) : valS k (minS k v) = v := by
  unfold valS minS
  split <;> omega
theorem minS_mono {k : Str} {x y : Int} (h : x ≤ y) : minS k x ≤ minS k y := by
  unfold minS
  split <;> omega
theorem small_ofW {n : Int} (h : n.natAbs ≤ 10000000000000000000000000000000000000000) : small n := Nat.lt_of_le_of_lt h (by decide +kernel)
theorem valS_small {k : Str} {x : Int} (h1 : -100000000000000000000000000000000000000 ≤ x) (h2 : x ≤ 100000000000000000000000000000000000000) : small (valS k x) := by
  refine small_ofW ?_
  unfold valS
  split <;> omega
theorem HOk1.val {s : PSt} {B : Int} {r : HR} (h : HOk1 s B r) : Val r.k (valS r.k r.a) (valS r.k r.b) r.o := ⟨h.kin, h.zo, valS_mono h.le, h.nm⟩
end Wd
end
section
set_option Elab.async false
set_option linter.all false
set_option maxRecDepth 100000
set_option maxHeartbeats 1000000
namespace Wd
open PySem PySem.Spec PyProof.Rows L2 Wt TL NumText
theorem RunW.one (s : PSt) (q : Str) (r : HR) : RunW s [q] [r] := ⟨rfl, fun i q r r' h _ _ => by simp at h⟩
theorem RunW.snoc {s : PSt} {ws : List Str} {rows : List HR} (h : RunW s ws rows) {q : Str} {r r' : HR} (hr : rows[ws.length - 1]? = some r) (c : CopyR s q r r') : RunW s (ws ++ [q]) (rows ++ [r']) := by
  have hl := h.len
  have hp : ws.length - 1 < rows.length := (List.getElem?_eq_some_iff.mp hr).1
  refine ⟨by rw [List.length_append, List.length_append, hl]; rfl, fun i q1 r1 r2 h1 h2 h3 => ?_⟩
  by_cases e : i + 1 < ws.length
  · rw [List.getElem?_append_left e] at h1
    rw [List.getElem?_append_left (by omega)] at h2
    rw [List.getElem?_append_left (by omega)] at h3
    exact h.step i q1 r1 r2 h1 h2 h3
  · have l1 : i + 1 < (ws ++ [q]).length := (List.getElem?_eq_some_iff.mp h1).1
    rw [List.length_append] at l1
    have l1 : i + 1 < ws.length + 1 := l1
    have ei : i + 1 = ws.length := by omega
    rw [ei, List.getElem?_append_right (Nat.le_refl _), Nat.sub_self] at h1
    rw [ei, ← hl, List.getElem?_append_right (Nat.le_refl _), Nat.sub_self] at h3
    rw [List.getElem?_append_left (by omega), show i = ws.length - 1 by omega, hr] at h2
    cases h1
    cases h2
    cases h3
    exact c
/-- at v what is held -/
def HeldAt (H : Hp) (v : V) (r : HR) : Prop := ∃ t, v = .ref t ∧ H t = some (.tup (heldV r.k r.o r.a r.b))
theorem HeldAt.same {H H' : Hp} {v : V} {r : HR} (s : Same H H') (h : HeldAt H v r) : HeldAt H' v r := by
  obtain ⟨t, e, q⟩ := h
  exact ⟨t, e, s _ _ q⟩
theorem HeldAt.sax {H H' : Hp} {v : V} {r : HR} (s : SaX H H') (h : HeldAt H v r) : HeldAt H' v r := by
  obtain ⟨t, e, q⟩ := h
  exact ⟨t, e, s _ _ q (fun _ => nofun)⟩
theorem HeldAt.put {H : Hp} {D : Addr} {zs ys : List V} {v : V} {r : HR} (hD : H D = some (.lst zs)) (h : HeldAt H v r) : HeldAt (upd H D (.lst ys)) v r := by
  obtain ⟨c, e, q⟩ := h
  refine ⟨c, e, ?_⟩
  rw [upd_ne ?_]
  · exact q
  · rintro rfl
    rw [hD] at q
    cases q
section
variable {P : Program} {w : World} {C t x : Addr} {p : PC} {n : Nat} {H H' : Hp} {s : PSt}
theorem CopsAt.same (e : Same H H') (h : CopsAt P w C t x p n H s) : CopsAt P w C t x p n H' s := ⟨e _ _ h.at_, h.one.same e, h.two.same e, h.n1, h.n2, h.n3, h.n4⟩
theorem CopsAt.sax (h : CopsAt P w C t x p n H s) (b : Sa4 p H H') : SaX H H' := fun a o q m => by
  obtain ⟨⟨φ1, x1⟩, ⟨φ2, x2⟩⟩ := h.one.exts
  obtain ⟨⟨φ3, x3⟩, ⟨φ4, x4⟩⟩ := h.two.exts
  exact b a o q (fun z => by rw [z, x1] at q; exact m φ1 (Option.some.inj q).symm) (fun z => by rw [z, x2] at q; exact m φ2 (Option.some.inj q).symm) (fun z => by rw [z, x3] at q; exact m φ3 (Option.some.inj q).symm) (fun z => by rw [z, x4] at q; exact m φ4 (Option.some.inj q).symm)
theorem CopsAt.put {D : Addr} {zs ys : List V} (hD : H D = some (.lst zs)) (h : CopsAt P w C t x p n H s) : CopsAt P w C t x p n (upd H D (.lst ys)) s := by
  have nx : ∀ a o, H a = some o → (∀ l, o ≠ .lst l) → (upd H D (.lst ys)) a = some o := fun a o q m => by
    rw [upd_ne (fun z => by rw [z, hD] at q; exact m _ (Option.some.inj q).symm)]
    exact q
  have one : ∀ {c : Addr} {en : Int} {e l : Addr}, CopAt P w C c x en e l n H s → CopAt P w C c x en e l n (upd H D (.lst ys)) s := fun h' => by
    obtain ⟨dc, ke, kl, g1, g2, g3, g4, g5, g6, g7, g8⟩ := h'.at_
    refine ⟨dc, ke, kl, nx _ _ g1 (fun _ => nofun), g2, ⟨nx _ _ g3.at_ (fun _ => nofun), fun r hr => nx _ _ (g3.keys r hr) (fun _ => nofun)⟩, ⟨nx _ _ g4.at_ (fun _ => nofun), fun r hr => nx _ _ (g4.keys r hr) (fun _ => nofun)⟩, fun r hr => ?_, g6, g7, g8⟩
    obtain ⟨q2, k2, h2, o2, oh2, oz2, t2, k2', o2', m2, rd2, e1, e2, e3, e4⟩ := g5 r hr
    exact ⟨q2, k2, h2, o2, oh2, oz2, t2, k2', o2', m2, rd2, e1, e2, nx _ _ e3 (fun _ => nofun), e4⟩
  exact ⟨nx _ _ h.at_ (fun _ => nofun), one h.one, one h.two, h.n1, h.n2, h.n3, h.n4⟩
end
theorem Same.put {H H' : Hp} {a : Addr} {o : HO} (s : Same H H') (h : H a = none) : Same H (upd H' a o) := fun b z hb => by
  rw [upd_ne (ne_of_none hb h)]
  exact s b z hb
theorem cut1 (xs : List V) : cutV xs (some 1) none = xs.drop 1 := by
  unfold cutV
  rw [HT.sIx_none, show (1 : Int) = ((1 : Nat) : Int) from rfl, HT.sIx_nat]
  by_cases h : 1 ≤ xs.length
  · rw [Nat.min_eq_left h, List.take_of_length_le (by rw [List.length_drop]; exact Nat.le_refl _)]
  · have e : xs = [] := List.length_eq_zero_iff.mp (by omega)
    subst e
    rfl
def spWalked (Cn CE : Addr) : Sp := fun vs H Q _ => ∃ (x tw y : Addr) (s : PSt) (ws : List Str) (z k : Str) (a b B : Int) (o : Option Str), vs = [.ref x, .ref tw, .ref y] ∧ NetAt Cn x H s ∧ GoodS s ∧ SeqH H tw (ws.map V.str) ∧ ws ≠ [] ∧ ws.length ≤ 100 ∧ Chain s.os ws ∧ KnownW s ws ∧
  EntA CE y z k a b o H ∧ HOk1 s B ⟨k, o, minS k a, minS k b⟩ ∧ ∀ D H' vs rows, Same H H' → H D = none → H' D = some (.lst vs) → All2 (HeldAt H') vs rows → RunW s ws rows → rows[0]? = some ⟨k, o, minS k a, minS k b⟩ → Q (.ref D) H'
section
variable {P : Program} {w : World} {K : PySem.W.Frag} {mg : Str → Option Value} {base : Heap} {f : Addr} {fd : FuncData}
structure DWalked (P : Program) (w : World) (K : PySem.W.Frag) (mg : Str → Option Value) (base : Heap) : Prop where
  need_walk : Df P w K mg base CX0 4 "need_walk" ["net", "walk", "entry"] (spNWalk (He.ga K "Net") (He.ga K "Entry"))
  copiers : Df P w K mg base CX0 3 "_copiers" ["net"] (spCopiers P w (He.ga K "Copier"))
  minutes_held : Df P w K mg base CX0 2 "minutes_held" ["entry"] (spHeld (He.ga K "Entry"))
  copy : Df P w K mg base CX0 8 "_copy" ["copiers", "q", "held"] (spCopy P w (He.ga K "Copier") (He.ga K "Net"))
end
end Wd
end
section
set_option Elab.async false
set_option linter.all false
set_option maxRecDepth 100000
set_option maxHeartbeats 1000000
namespace Wd
open PySem PySem.Spec PyProof.Rows L2 Wt TL NumText
/-- at v the entry of what is held -/
def EntR (CE : Addr) (H : Hp) (v : V) (r : HR) : Prop := ∃ y z, v = .ref y ∧ EntA CE y z r.k (valS r.k r.a) (valS r.k r.b) r.o H ∧ z = mkT r.k (valS r.k r.a) (valS r.k r.b) r.o
theorem EntR.same {CE : Addr} {H H' : Hp} {v : V} {r : HR} (s : Same H H') (h : EntR CE H v r) : EntR CE H' v r := by
  obtain ⟨y, z, e, q, t⟩ := h
  exact ⟨y, z, e, q.same s, t⟩
theorem EntR.put {CE : Addr} {H : Hp} {D : Addr} {zs ys : List V} {v : V} {r : HR} (hD : H D = some (.lst zs)) (h : EntR CE H v r) : EntR CE (upd H D (.lst ys)) v r := by
  obtain ⟨y, z, e, ⟨dx, q⟩, t⟩ := h
  refine ⟨y, z, e, ⟨dx, ?_⟩, t⟩
  rw [upd_ne ?_]
  · exact q
  · rintro rfl
    rw [hD] at q
    cases q
theorem All2.drop {α β : Type} {R : α → β → Prop} : ∀ (n : Nat) {xs : List α} {ys : List β}, All2 R xs ys → All2 R (xs.drop n) (ys.drop n)
  | 0, _, _, h => h
  | _ + 1, _, _, .nil => .nil
  | n + 1, _, _, .cons _ t => t.drop n
def spAlong (Cn CE : Addr) : Sp := fun vs H Q _ => ∃ (x tw y : Addr) (s : PSt) (ws : List Str) (z k : Str) (a b : Int) (o : Option Str), vs = [.ref x, .ref tw, .ref y] ∧ NetAt Cn x H s ∧ GoodS s ∧ SeqH H tw (ws.map V.str) ∧ ws ≠ [] ∧ ws.length ≤ 100 ∧ Chain s.os ws ∧ KnownW s ws ∧
  EntA CE y z k a b o H ∧ z = mkT k a b o ∧ HOk1 s 1000000000000000000000000000000000000 ⟨k, o, minS k a, minS k b⟩ ∧ ∀ t H' vs rows, Same H H' → H t = none → H' t = some (.tup vs) → All2 (EntR CE H') vs rows → RunW s ws rows → rows[0]? = some ⟨k, o, minS k a, minS k b⟩ → Q (.ref t) H'
section
variable {P : Program} {w : World} {K : PySem.W.Frag} {mg : Str → Option Value} {base : Heap} {f : Addr} {fd : FuncData}
structure DAlong (P : Program) (w : World) (K : PySem.W.Frag) (mg : Str → Option Value) (base : Heap) : Prop where
  walked : Df P w K mg base CX0 9 "_walked" ["net", "walk", "entry"] (spWalked (He.ga K "Net") (He.ga K "Entry"))
  entry_held : Df P w K mg base CX0 7 "entry_held" ["held"] (spEntry (He.ga K "Entry"))
end
end Wd
end
section
set_option Elab.async false
set_option linter.all false
set_option maxRecDepth 100000
set_option maxHeartbeats 1000000
namespace Wd
open PySem PySem.Spec PyProof.Rows L2 Wt TL NumText
def spShown (Cn CE : Addr) : Sp := fun vs H Q _ => ∃ (x y : Addr) (s : PSt) (p h z k : Str) (oh oz a b : Int) (o : Option Str), vs = [.ref x, .str p, .ref y] ∧ NetAt Cn x H s ∧ KnownP s p h oh ∧ EntA CE y z k a b o H ∧ KnownZ s k o oz ∧
  ∀ t H' d0 d1, Same H H' → DayS s p k o (minS k a) d0 → DayS s p k o (minS k b) d1 → H' t = some (.tup [.int d0, .int d1]) → Q (.ref t) H'
def spMoved (Cn CE : Addr) : Sp := fun vs H Q _ => ∃ (x tw y : Addr) (s : PSt) (ws : List Str) (p0 p1 z k : Str) (a b : Int) (o : Option Str), vs = [.ref x, .ref tw, .ref y] ∧ NetAt Cn x H s ∧ GoodS s ∧ H tw = some (.tup (ws.map V.str)) ∧ ws[0]? = some p0 ∧ ws[ws.length - 1]? = some p1 ∧ ws.length ≤ 100 ∧ Chain s.os ws ∧ KnownW s ws ∧
  EntA CE y z k a b o H ∧ HOk1 s 1000000000000000000000000000000000000 ⟨k, o, minS k a, minS k b⟩ ∧ ∀ t H' rows r d0 d1 e0 e1, Same H H' → RunW s ws rows → rows[0]? = some ⟨k, o, minS k a, minS k b⟩ → rows[ws.length - 1]? = some r →
  DayS s p0 k o (minS k a) d0 → DayS s p0 k o (minS k b) d1 → DayS s p1 r.k r.o r.a e0 → DayS s p1 r.k r.o r.b e1 → H' t = some (.tup [.int (e0 - d0), .int (e1 - d1)]) → Q (.ref t) H'
section
variable {P : Program} {w : World} {K : PySem.W.Frag} {mg : Str → Option Value} {base : Heap} {f : Addr} {fd : FuncData}
structure DShown (P : Program) (w : World) (K : PySem.W.Frag) (mg : Str → Option Value) (base : Heap) : Prop where
  need_known : Df P w K mg base CX0 3 "need_known" ["net", "p", "entry"] (spKnown (He.ga K "Net") (He.ga K "Entry"))
  copiers : Df P w K mg base CX0 3 "_copiers" ["net"] (spCopiers P w (He.ga K "Copier"))
  minutes_held : Df P w K mg base CX0 2 "minutes_held" ["entry"] (spHeld (He.ga K "Entry"))
  days : Df P w K mg base CX0 7 "_days" ["copiers", "p", "held"] (spDays P w (He.ga K "Copier") (He.ga K "Net"))
theorem scShown : FnScope ["net", "p", "entry"] ["net", "p", "entry"] (defScope (top i_shown)) := ⟨rfl, rfl, rfl, by decide +kernel, rfl, by decide +kernel, by decide +kernel⟩
theorem ok_shown (F : FnG K "shown" i_shown f fd) (D : DShown P w K mg base) : FnOk P w K mg base CX0 8 f fd ["net", "p", "entry"] (spShown (He.ga K "Net") (He.ga K "Entry")) := by
  refine F.ok scShown (fun vs H Q E h => ?_) (fun cdv A outer s H vs Q E hr h => ?_)
  · obtain ⟨x, y, st, p, h, z, kd, oh, oz, a, b, o, rfl, _⟩ := h
    rfl
  · obtain ⟨x, y, st, p, h, z, kd, oh, oz, a, b, o, rfl, hN, hp, hE, hz, k⟩ := h
    refine ⟨_, PSs.nox (pss_cons (ps_expr (pe_cd D.need_known (hr.mono (by decide)) pass0 (pa_cons (pv 0) (pa_cons (pv 1) (pa_cons (pv 2) pa_nil)))))
        (pss_one (ps_ret (pe_cd D.days (hr.mono (by decide)) pass0 (pa_cons (pe_cd D.copiers (hr.mono (by decide)) pass0 (pa_cons (pv 0) pa_nil)) (pa_cons (pv 1) (pa_cons (pe_cd D.minutes_held (hr.mono (by decide)) pass0 (pa_cons (pv 2) pa_nil)) pa_nil))))))), ?_⟩
    refine ⟨_, rfl, _, rfl, _, rfl, x, y, st, p, h, z, kd, oh, a, b, oz, o, rfl, hN, hp, hE, hz, ?_⟩
    refine ⟨_, rfl, x, rfl, fun tc pc H1 s1 htc f1 f2 f3 f4 cps => ?_⟩
    refine ⟨_, rfl, _, rfl, y, z, kd, a, b, o, rfl, hE.same s1, fun th H2 s2 hth hthq => ?_⟩
    have s12 := s1.trans s2
    refine ⟨tc, x, th, pc, st, p, h, kd, oh, oz, _, _, o, 0, rfl, (cps st).same s2, by omega, hN.same s12, hp, hz, hthq, fun t H3 cp3 sa tq => ?_⟩
    have s13 : Same H H3 := fun c o e => sa c o (s12 _ _ e) (ne_of_none e f1) (ne_of_none e f2) (ne_of_none e f3) (ne_of_none e f4)
    exact k t H3 _ _ s13 ⟨h, oh, oz, hp, hz, rfl⟩ ⟨h, oh, oz, hp, hz, rfl⟩ tq
structure DMoved (P : Program) (w : World) (K : PySem.W.Frag) (mg : Str → Option Value) (base : Heap) : Prop where
  walked : Df P w K mg base CX0 9 "_walked" ["net", "walk", "entry"] (spWalked (He.ga K "Net") (He.ga K "Entry"))
  copiers : Df P w K mg base CX0 3 "_copiers" ["net"] (spCopiers P w (He.ga K "Copier"))
  days : Df P w K mg base CX0 7 "_days" ["copiers", "p", "held"] (spDays P w (He.ga K "Copier") (He.ga K "Net"))
end
end Wd
end
section
set_option Elab.async false
set_option linter.all false
set_option maxRecDepth 100000
set_option maxHeartbeats 2000000
set_option pp.maxSteps 600
/-! len(o), x in o of an instance with own __len__ and __contains__. -/
namespace Wd
open PySem PySem.Spec PyProof.Rows L2
section
variable {X : Cx} {CX : CXT} {k n : Nat} {m : Str} {C f : Addr} {fd : FuncData} {ps : List Str} {sp : Sp} {E : XK} {pins : List (Addr × Obj)} {σ : L2.St} {H : Hp} {s : Shared} {A1 : Around}
theorem own_run {us : List Value} {vs : List V} {Q : VK} (sb : Sub X k A1) (F : FnOk X.prog X.w X.K X.mg X.base CX k f fd ps sp) (hb : Binds X.K fd ps []) (hx : Passes CX X E) (I : Inv X pins σ H s) (r : Vals vs us) (h : sp vs H Q E) :
    wpAny (model X.prog X.w) A1 (call (.ref f) us) (EP X pins σ Q) X.xe s := by
  have e0 : Env0 X.prog X.w X.K X.mg X.base A1 X.stack s H := by
    have e := I.env0
    exact ⟨by rw [sb.fr]; exact e.frames, e.mod, e.bs, e.bsz, e.funs, e.frf, e.hok, e.bare⟩
  have hl : (us ++ []).length = ps.length := by rw [List.append_nil, ← r.length]; exact F.len _ _ _ _ h
  have hb' := hb s us I.kIn hl
  rw [List.append_nil] at hb'
  refine wpAny_call (codeAny_mono (F.run A1 X.stack s H ⟨us, []⟩ us vs Q E sb.room e0 hb' r h) fun r s' hq => ?_)
  cases r with
  | error e => exact hx pins σ H s e s' I hq
  | ok fl =>
    cases fl with
    | ret u => exact I.after hq
    | next => exact False.elim hq
    | brk => exact False.elim hq
    | cont => exact False.elim hq
/-- len(o) -/
def rLenOwn (C : Addr) (sp : Sp) (E : XK) : List V → Hp → VK → Prop := fun xs H Q => ∃ a dx fs, xs = [.ref a] ∧ H a = some (.ins C dx fs) ∧ sp [.ref a] H (fun v H' => ∃ n : Nat, v = .int n ∧ n ≤ sizeLine ∧ Q (.int n) H') E
theorem call_lenOwn (M : Md X.prog X.w X.K X.mg X.base C CX k "__len__" ps sp) (hr : Room (k + 1) X.A) (hx : Passes CX X E) : CallR X (.builtin "len") (rLenOwn C sp E) := by
  intro pins s σ H xs us Q I r h
  obtain ⟨a, dx, fs, rfl, ha, q⟩ := h
  obtain ⟨u, rfl, ru⟩ := r.one
  cases ru
  obtain ⟨f, fd, hm, G, hb⟩ := M.ex
  obtain ⟨mA, J, _⟩ := ins_get I.hok ha
  obtain ⟨od, J, _⟩ := J.look
  refine Calls.call_function_entry kind_len plain_len entry_len (args_len1 _) ?_
  unfold Builtin.«len»
  refine wpAny_bind (m := oneArg "len" _) (wpAny_pure ?_)
  have r2 : Vals [V.ref a] [Value.ref a] := .cons rfl .nil
  refine wpAny_bind (m := callSpecial? (.ref a) (Str.ofString "__len__")) (PySem.W.special_fn I.kIn J hm.at_ (beq_iff_eq.mp hm.fn) (wpAny_mono (own_run (Sub.in1 ⟨hr, rfl⟩) G hb hx I r2 q) (fun r s' hr => ?_) fun _ _ y => y))
  obtain ⟨v, H', I', rv, n, rfl, hn, q'⟩ := hr
  obtain ⟨t, rfl⟩ := rv
  have hs : sizeLine = 16777216 := sizeLine_eq
  refine wpAny_bind (wpAny_holding (wpAny_pure ?_))
  refine wpAny_bind (wpAny_letGo ?_)
  show wpAny _ _ (if (n : Int) < 0 then _ else _) _ _ _
  rw [if_neg (by omega)]
  show wpAny _ _ (if (n : Int) ≥ 2 ^ 63 then _ else _) _ _ _
  rw [if_neg (by omega)]
  exact wpAny_bind (wpAny_mkInt (wpAny_pure ⟨_, rfl, .int n, H', I'.tok _, ⟨_, rfl⟩, q'⟩))
/-- x in o -/
def rInOwn (C : Addr) (sp : Sp) (E : XK) (g : Bool → Bool) : R2 := fun x y H Q => ∃ a dx fs, y = .ref a ∧ H a = some (.ins C dx fs) ∧ sp [.ref a, x] H (fun v H' => ∃ b : Bool, v = .bl b ∧ Q (.bl (g b)) H') E
theorem contains_own {x : V} {u : Value} {a dx : Addr} {fs : List (Str × V)} {Q : Bool → Hp → Prop} (M : Md X.prog X.w X.K X.mg X.base C CX k "__contains__" ps sp) (hr : Room k X.A) (hx : Passes CX X E) (I : Inv X pins σ H s) (ru : RelV x u) (ha : H a = some (.ins C dx fs))
    (h : sp [.ref a, x] H (fun v H' => ∃ b : Bool, v = .bl b ∧ Q b H') E) : wpAny (model X.prog X.w) X.A (contains (.ref a) u) (TP X pins σ Q) X.xe s := by
  obtain ⟨f, fd, hm, G, hb⟩ := M.ex
  obtain ⟨mA, J, _⟩ := ins_get I.hok ha
  obtain ⟨od, J, _⟩ := J.look
  unfold contains
  refine wpAny_holding ?_
  show wpAny _ _ (specialOf (.ref a) "__contains__" >>= _) _ _ _
  refine wpAny_bind (wpAny_bind (J.type.here ((PySem.W.looks_findIn I.kIn hm.at_).here ?_)))
  show wpAny _ _ (if (some (Value.ref f) == some Value.none) = true then _ else _) _ _ _
  rw [if_neg (by simp)]
  unfold callSpecialUnlessNone?
  refine wpAny_bind (wpAny_bind (wpAny_bind (J.type.here ((PySem.W.looks_findIn I.kIn hm.at_).here ?_))))
  refine wpAny_holding (wpAny_bind ((PySem.W.bind_fn I.kIn _ (beq_iff_eq.mp hm.fn)).here ?_))
  show wpAny _ _ (if (Value.ref f == Value.none) = true then _ else _) _ _ _
  rw [if_neg (show ¬ ((Value.ref f == Value.none) = true) from Bool.false_ne_true)]
  have r2 : Vals [V.ref a, x] [Value.ref a, u] := .cons rfl (.cons ru .nil)
  refine wpAny_bind (wpAny_mono (own_run ⟨hr, rfl⟩ G hb hx I r2 h) (fun r s' hq => ?_) fun _ _ y => y)
  obtain ⟨v, H', I', rv, b, rfl, q'⟩ := hq
  cases rv
  refine wpAny_pure ?_
  exact wpAny_truthy_bool ⟨H', I', q'⟩
theorem op_inOwn (M : Md X.prog X.w X.K X.mg X.base C CX k "__contains__" ps sp) (hr : Room k X.A) (hx : Passes CX X E) : OpR X (compareOp .In) (rInOwn C sp E id) := by
  intro pins s σ H x y v u Q I rx ry h
  obtain ⟨a, dx, fs, rfl, ha, q⟩ := h
  cases ry
  show wpAny _ _ (do return Value.bool (← contains (.ref a) v)) _ _ _
  refine wpAny_bind (wpAny_mono (contains_own (Q := fun b H' => Q (.bl b) H') M hr hx I rx ha q) (fun b s' hb => ?_) fun _ _ y => y)
  obtain ⟨H', I', q'⟩ := hb
  exact wpAny_pure ⟨.bl b, H', I', rfl, q'⟩
theorem op_notinOwn (M : Md X.prog X.w X.K X.mg X.base C CX k "__contains__" ps sp) (hr : Room k X.A) (hx : Passes CX X E) : OpR X (compareOp .NotIn) (rInOwn C sp E (!·)) := by
  intro pins s σ H x y v u Q I rx ry h
  obtain ⟨a, dx, fs, rfl, ha, q⟩ := h
  cases ry
  show wpAny _ _ (do return Value.bool (!(← contains (.ref a) v))) _ _ _
  refine wpAny_bind (wpAny_mono (contains_own (Q := fun b H' => Q (.bl (!b)) H') M hr hx I rx ha q) (fun b s' hb => ?_) fun _ _ y => y)
  obtain ⟨H', I', q'⟩ := hb
  exact wpAny_pure ⟨.bl (!b), H', I', rfl, q'⟩
end
end Wd
end
section
set_option Elab.async false
set_option linter.all false
set_option maxRecDepth 100000
set_option maxHeartbeats 2000000
set_option pp.maxSteps 600
/-! iter(t) of a tuple; own __iter__ that gives it: walked by a comprehension, and list(o). -/
namespace Wd
open PySem PySem.Spec PyProof.Rows L2 ItX
/-- at `it` an iterator over the tuple at l, the next place is i -/
def TuO (l it : Addr) (i : Nat) : HO := .ext fun h => h.IsTupleIter it l i
section
variable {X : Cx} {pins : List (Addr × Obj)} {σ : L2.St} {H : Hp} {s : Shared} {it l : Addr} {i : Nat}
theorem tuO_ok {P : Program} {w : World} {h : Heap} (e : h.IsTupleIter it l i) : ObjOk P w H h it (TuO l it i) := by
  obtain ⟨o, e1, e2⟩ := id e
  exact ⟨e, ⟨o, e1⟩, fun h1 h2 q k => q.at fun o e => k _ e⟩
theorem tuO_get (I : Inv X pins σ H s) (e : H it = some (TuO l it i)) : s.heap.IsTupleIter it l i := (I.hok it _ e).1
def rIterT (K : PySem.W.Frag) (n : Nat) : List V → Hp → VK → Prop := fun xs H Q => ∃ (l : Addr) (zs : List V), xs = [.ref l] ∧ SqT K H l zs ∧ ∀ it, H it = none → n ≤ it → Q (.ref it) (upd H it (TuO l it 0))
theorem call_iterT : CallR X (.builtin "iter") (rIterT X.K X.s_0.heap.objs.size) := by
  intro pins s σ H xs us Q I r h
  obtain ⟨l, zs, rfl, hq, q⟩ := h
  obtain ⟨u, rfl, ru⟩ := vals1 r
  cases ru
  obtain ⟨its, rv, pl, hz⟩ := I.tuple hq
  refine Calls.call_function_entry (by decide +kernel) (by decide +kernel) PySem.W.kdk_entry_iter (PySem.W.kdk_args_iter _) ?_
  unfold Builtin.«iter»
  refine wpAny_bind (m := someArgs "iter" 1 2 _) (wpAny_of_eq (a := [Value.ref l]) (by first | rfl | kernel_rfl!) ?_)
  show wpAny _ _ (pyIter (.ref l) >>= _) _ _ _
  refine wpAny_bind (wpAny_pyIter_tuple (show s.heap.IsTuple l its.toArray from pl) ?_)
  refine wpAny_pure ⟨_, rfl, .ref s.heap.objs.size, _, I.laid (t' := s.toks) (fun b u e => Heap.get?_push_of_some _ e) (Nat.le_refl _) (tuO_ok (l := l) (i := 0) ⟨_, Heap.get?_push_size _ rfl, rfl, rfl⟩), rfl, q _ (I.hok.fresh (Nat.le_refl _)) I.sz⟩
end
/-- own __iter__: a new iterator over the tuple that the field t holds -/
structure IterR (P : Program) (w : World) (K : PySem.W.Frag) (mg : Str → Option Value) (base : Heap) (k : Nat) (C f : Addr) (t : Str) : Prop where
  run : ∀ (A : Around) (outer : List Env) (s : Shared) (H : Hp) (a dx l : Addr) (fs : List (Str × V)) (zs : List V), Room k A → Env0 P w K mg base A outer s H → H a = some (.ins C dx fs) → fs.lookup t = some (.ref l) → SqT K H l zs →
    codeAny (model P w) A (.call (.ref f) ⟨[.ref a], []⟩) (CR CX0 outer P w H s (fun v H' => ∃ it, v = .ref it ∧ s.heap.objs.size ≤ it ∧ H it = none ∧ H' = upd H it (TuO l it 0)) fun _ _ _ => False) s
structure IterM (P : Program) (w : World) (K : PySem.W.Frag) (mg : Str → Option Value) (base : Heap) (k : Nat) (C : Addr) (t : Str) : Prop where
  ex : ∃ f, Meth K C "__iter__" f ∧ IterR P w K mg base k C f t
theorem next_tuple_iterator : typeLookup (.type "tuple_iterator") "__next__" = pure (some (.builtin "tuple_iterator.__next__")) := F.slot_tuple_iterator_next.lookup
section
variable {X : Cx} {k : Nat} {C : Addr} {t : Str} {pins : List (Addr × Obj)} {σ : L2.St} {H : Hp} {s : Shared} {A1 : Around}
/-- iter(o): the new iterator is not kept -/
theorem iter_run {a dx l : Addr} {fs : List (Str × V)} {zs : List V} {Q : Value → Shared → Prop} (M : IterM X.prog X.w X.K X.mg X.base k C t) (sb : Sub X k A1) (I : Inv X pins σ H s) (ha : H a = some (.ins C dx fs)) (ht : fs.lookup t = some (.ref l)) (hl : SqT X.K H l zs)
    (q : ∀ it s', Inv X pins σ H s' → s'.heap.IsTupleIter it l 0 → FpOk X pins H it → Q (.ref it) s') : wpAny (model X.prog X.w) A1 (pyIter (.ref a)) Q X.xe s := by
  obtain ⟨f, hm, R⟩ := M.ex
  obtain ⟨mA, J, _⟩ := ins_get I.hok ha
  obtain ⟨od, J, _⟩ := J.look
  obtain ⟨m, hF⟩ := I.fr
  have e0 : Env0 X.prog X.w X.K X.mg X.base A1 X.stack s H := by
    have e := I.env0
    exact ⟨by rw [sb.fr]; exact e.frames, e.mod, e.bs, e.bsz, e.funs, e.frf, e.hok, e.bare⟩
  refine PySem.W.owit_iter hF I.ok.mod.kin J hm.at_ hm.fn ?_
  refine wpAny_call (codeAny_mono (R.run A1 X.stack s H a dx l fs zs sb.room e0 ha ht hl) fun r s' hq => ?_)
  cases r with
  | error e => exact False.elim hq
  | ok fl =>
    cases fl with
    | next => exact False.elim hq
    | brk => exact False.elim hq
    | cont => exact False.elim hq
    | ret u =>
      obtain ⟨v, H', I', rv, it, rfl, hn, hit, rfl⟩ := I.after hq
      cases rv
      have st := tuO_get I' upd_same
      unfold PySem.W.OwitIt
      refine wpAny_specialOf st.typeIs next_tuple_iterator ?_
      have I2 := inv_drop I' (a := it) upd_same
      have fp := inv_fp I' (a := it) upd_same (Nat.le_trans I.sz hn)
      rw [dropH_upd hit] at I2 fp
      exact q it s' I2 st fp
/-- the rest of a comprehension's iterable: an own thing -/
def iOwn (C : Addr) (t : Str) (K : PySem.W.Frag) (te : TE) : TI := fun σ H R => te σ H fun x H1 => ∃ a dx fs l zs, x = .ref a ∧ H1 a = some (.ins C dx fs) ∧ fs.lookup t = some (.ref l) ∧ SqT K H1 l zs ∧ R (Itt K l) H1
theorem pi_own {tg e : Expr} {te : TE} (M : IterM X.prog X.w X.K X.mg X.base k C t) (hr : Room k X.A) (he : PE X e te) : PI X tg e (iOwn C t X.K te) := by
  refine ⟨fun pins s σ H R I h => ?_⟩
  refine thn (he.run pins s σ H _ I h) fun u s1 ⟨x, H1, I1, r1, a, dx, fs, l, zs, ex, ha, ht, hl, q⟩ => ?_
  subst ex
  cases r1
  refine iter_run M ⟨hr, rfl⟩ I1 ha ht hl fun it s' I2 st fp => ?_
  refine ⟨it, [it], _, _, H1, rfl, I2, turn_tuple l _, st, fun b hb => ?_, q⟩
  have e : b = it := by simpa using hb
  rw [e]
  exact fp
end
/-- a def's run at one state (the wish may speak of that state) -/
theorem run_at {CX : CXT} {P : Program} {w : World} {K : PySem.W.Frag} {mg : Str → Option Value} {base : Heap} {x qual : Str} {params : Arguments} {body : List Stmt} {scope : Scope} {dvs : List V} {kws : List (Str × V)} {f : Addr} {fd : FuncData} {N ps : List Str} {k : Nat}
    (F : FunD K x qual params body scope dvs kws f fd) (S : FnScope N ps scope) {A : Around} {outer : List Env} {s : Shared} {H : Hp} {args : Args} {us : List Value} {vs : List V} {Q : VK} {E : XK} (hr : Room (k + 1) A) (e0 : Env0 P w K mg base A outer s H)
    (hb : BindsTo s fd args (ps.zip us)) (r : Vals vs us) (hl : vs.length = ps.length)
    (hbody : ∀ cdv, Room k (A.deeper (envOfC qual scope s.heap.objs.size f cdv)) → ∃ t, PSs (cxOf CX P w K mg base N qual scope f cdv A outer s H E) body t ∧ t { nx := fun _ H' => Q .non H', rt := Q } (start N vs) H) :
    codeAny (model P w) A (.call (.ref f) args) (CR CX outer P w H s Q E) s := by
  obtain ⟨oc, od, dV, kV, doc, pm, an, cdv, ct, osl, rfl, lk, hcd, _, _⟩ := F.ex
  have old : ∀ b o, base.get? b = some o → s.heap.get? b = some o := fun b o e => (e0.bs b o e).1
  have KX : K.In s.heap := e0.mod.kin.keeps old
  refine codeAny_call_function hr.depth (KX _ _ lk) rfl S.co S.gen rfl (PySem.W.codeRec_of KX hcd) (hb _ _ _ _ ?_)
  refine wpAny_newFunctionEnv_cells S.kind (fun y hy => ?_) fun env he s1 lay => ?_
  · rcases S.par y.1 (List.of_mem_zip (show (y.1, y.2) ∈ ps.zip us from hy)).1 with q | q
    · exact .inl q
    · exact .inr ⟨q, PySem.W.cellsFrom_some _ _ _ (.inl q)⟩
  subst he
  refine ⟨(e0.mod.nolimit.keeps old).keeps lay.toInCall.keep, codeAny_func ?_⟩
  obtain ⟨t, ht, hq⟩ := hbody cdv (hr.deeper _)
  have ends : ∀ {σ' : L2.St} {H' : Hp} {v : V} {u : Value} {s' : Shared}, Inv (cxOf CX P w K mg base N qual scope f cdv A outer s H E) [] σ' H' s' → L2.RelV v u → Q v H' → CE outer P w H s Q u s' :=
    fun J rv q => ⟨_, _, J.os, J.bare, J.base, J.hok, rv, q⟩
  refine wpAny_mono (ht.run [] s1 (start N vs) H _ (inv_start S hr.hd e0 hl r lay) hq) (fun fl s' hs => ?_) fun _ _ hs => hs
  cases fl with
  | brk => exact False.elim hs.choose_spec.choose_spec.2
  | cont => exact False.elim hs.choose_spec.choose_spec.2
  | next =>
    obtain ⟨σ', H', J, q⟩ := hs
    exact ends (v := V.non) (u := Value.none) J rfl q
  | ret u =>
    obtain ⟨v, σ', H', J, rv, q⟩ := hs
    exact ends J rv q
end Wd
end
section
set_option Elab.async false
set_option linter.all false
set_option maxRecDepth 100000
set_option maxHeartbeats 2000000
set_option pp.maxSteps 600
/-! list(o) of an instance whose __iter__ gives an iterator over a tuple, and with an own __len__. -/
namespace Wd
open PySem PySem.Spec PyProof.Rows L2 ItX
section
variable {X : Cx} {k : Nat} {C : Addr} {t : Str} {pins : List (Addr × Obj)} {σ : L2.St} {H : Hp} {s : Shared} {A1 : Around} {ps : List Str} {sp : Sp}
theorem tup_loop {q it l : Addr} {zs : List V} {H0 : Hp} {Rs : Result → Shared → Prop} (hh : A1.handled = none) (hqi : it ≠ q) (hzs : zs.length ≤ sizeLine) (hl : ∀ ys, SqT X.K (upd H0 q (.lst ys)) l zs) (hi : H0 it = none)
    (hdone : ∀ s', Inv X pins σ (upd H0 q (.lst zs)) s' → Rs (.ok (.ret .none)) s') :
    ∀ (n i : Nat) (s : Shared), zs.length - i = n → i ≤ zs.length → Inv X pins σ (upd H0 q (.lst (zs.take i))) s → s.heap.IsTupleIter it l i → FpOk X pins (upd H0 q (.lst (zs.take i))) it →
      codeAny (model X.prog X.w) A1 (.builtin "list.extend.loop" ⟨[.ref q, .ref it, .none], []⟩) Rs s := by
  intro n
  induction n with
  | zero =>
    intro i s hn hi' I st fp
    have ei : i = zs.length := by omega
    subst ei
    obtain ⟨its, rv, p, hz⟩ := I.tuple (hl _)
    have ll := rv.length
    obtain ⟨f0, f1, f2, f3, f4, f5⟩ := fp
    refine codeAny_builtin PySem.F.entry_extend_loop ?_
    rw [Around.under_plainId PySem.F.plain_extend_loop _]
    show wpAny _ A1.in1 (pyNext (.ref it) >>= _) _ _ s
    refine wpAny_bind (wpAny_pyNext_tuple_end (show A1.in1.handled = none from hh) st (show s.heap.IsTuple l its.toArray from p) (by simp; omega) fun h' eb => ?_)
    refine wpAny_pure (hdone _ ?_)
    have I1 := I.turned (t' := s.toks) (h' := h') (fun b o hb e => eb b o hb e) f0 f1 f3 f4 f5
    rw [List.take_length] at I1
    exact I1
  | succ n ih =>
    intro i s hn hi' I st fp
    obtain ⟨x, hx⟩ : ∃ x, zs[i]? = some x := ⟨_, List.getElem?_eq_getElem (by omega)⟩
    obtain ⟨its, rv, p, hz⟩ := I.tuple (hl _)
    obtain ⟨u, hu, ru⟩ := rv.get hx
    obtain ⟨f0, f1, f2, f3, f4, f5⟩ := id fp
    refine codeAny_builtin PySem.F.entry_extend_loop ?_
    rw [Around.under_plainId PySem.F.plain_extend_loop _]
    show wpAny _ A1.in1 (pyNext (.ref it) >>= _) _ _ s
    refine wpAny_bind (wpAny_pyNext_tuple_item st (show s.heap.IsTuple l its.toArray from p) (x := u) (by simpa using hu) fun h' st' sb => ?_)
    have I1 : Inv X pins σ (upd H0 q (.lst (zs.take i))) { s with heap := h' } := I.turned (t' := s.toks) (fun b o hb e => (sb.2 b hb).trans e) f0 f1 f3 f4 f5
    show wpAny _ A1.in1 (updateSeq q (·.push u) >>= _) _ _ _
    obtain ⟨z, xs, m, r2, hll, e⟩ := I1.lstM upd_same
    have tl : (zs.take i).length = i := by rw [List.length_take]; omega
    refine wpAny_bind (wpAny_updateSeq e rfl (wpAny_pure ⟨plainId_quiet PySem.F.plain_extend_loop _, ?_⟩) (by rw [List.size_toArray]; omega) (by show (xs.toArray.push u).size ≤ sizeLine + 1; rw [Array.size_push, List.size_toArray]; omega))
    have I2 := I1.lset (f := (·.push u)) (its' := xs ++ [u]) (ys := zs.take i ++ [x]) (t' := s.toks) upd_same e (by simp) (r2.append (.cons ru .nil)) (by rw [List.length_append, List.length_singleton]; omega)
    rw [upd_upd] at I2
    have et : zs.take i ++ [x] = zs.take (i + 1) := by rw [List.take_add_one, hx]; rfl
    rw [et] at I2
    refine ih (i + 1) _ (by omega) (by omega) I2 (st'.at fun o e => by rw [Heap.get?_update_ne _ _ _ _ hqi]; exact e) ⟨by rw [upd_ne hqi]; exact hi, fp.2⟩
/-- len(o) that lets nothing out -/
theorem len_run0 {a dx : Addr} {fs : List (Str × V)} {Q : VK} (M : Md X.prog X.w X.K X.mg X.base C CX0 k "__len__" ps sp) (sb : Sub X (k + 1) A1) (I : Inv X pins σ H s) (ha : H a = some (.ins C dx fs))
    (q : sp [.ref a] H (fun v H' => ∃ n : Nat, v = .int n ∧ n ≤ sizeLine ∧ Q (.int n) H') fun _ _ _ => False) : wpAny (model X.prog X.w) A1 (call (.builtin "len") [.ref a]) (fun u s' => EP X pins σ Q u s' ∧ ∀ b o, s.heap.get? b = some o → H b = none → b ∉ frs X.stack → s'.heap.get? b = some o) (fun _ _ => False) s := by
  obtain ⟨f, fd, hm, G, hb⟩ := M.ex
  obtain ⟨mA, J, _⟩ := ins_get I.hok ha
  obtain ⟨od, J, _⟩ := J.look
  refine Calls.call_function_entry kind_len plain_len entry_len (args_len1 _) ?_
  unfold Builtin.«len»
  refine wpAny_bind (m := oneArg "len" _) (wpAny_pure ?_)
  have r2 : Vals [V.ref a] [Value.ref a] := .cons rfl .nil
  have e0 : Env0 X.prog X.w X.K X.mg X.base A1.in1 X.stack s H := by
    have e := I.env0
    exact ⟨by rw [(Sub.in1 sb).fr]; exact e.frames, e.mod, e.bs, e.bsz, e.funs, e.frf, e.hok, e.bare⟩
  have hl : ([Value.ref a] ++ []).length = ps.length := by rw [List.append_nil, ← r2.length]; exact G.len _ _ _ _ q
  have hb' := hb s [Value.ref a] I.kIn hl
  rw [List.append_nil] at hb'
  refine wpAny_bind (m := callSpecial? (.ref a) (Str.ofString "__len__")) (PySem.W.special_fn I.kIn J hm.at_ (beq_iff_eq.mp hm.fn) (wpAny_call (codeAny_mono (G.run A1.in1 X.stack s H ⟨[.ref a], []⟩ _ _ _ _ (Sub.in1 sb).room e0 hb' r2 q) fun r s' hq => ?_)))
  cases r with
  | error e => exact False.elim hq
  | ok fl =>
    cases fl with
    | next => exact False.elim hq
    | brk => exact False.elim hq
    | cont => exact False.elim hq
    | ret u =>
      have kp : ∀ b o, s.heap.get? b = some o → H b = none → b ∉ frs X.stack → s'.heap.get? b = some o := by
        obtain ⟨_, _, _, _, un, _⟩ := id hq
        exact fun b o e n hf => un.keep b o e n hf (by simp)
      obtain ⟨v, H', I', rv, n, rfl, hn, q'⟩ := I.after hq
      obtain ⟨t, rfl⟩ := rv
      have hs : sizeLine = 16777216 := sizeLine_eq
      refine wpAny_bind (wpAny_holding (wpAny_pure ?_))
      refine wpAny_bind (wpAny_letGo ?_)
      show wpAny _ _ (if (n : Int) < 0 then _ else _) _ _ _
      rw [if_neg (by omega)]
      show wpAny _ _ (if (n : Int) ≥ 2 ^ 63 then _ else _) _ _ _
      rw [if_neg (by omega)]
      exact wpAny_bind (wpAny_mkInt (wpAny_pure ⟨_, rfl, ⟨.int n, H', I'.tok _, ⟨_, rfl⟩, q'⟩, kp⟩))
theorem own_hint {a dx : Addr} {fs : List (Str × V)} {Q : Bool → Shared → Prop} {Er : Value → Shared → Prop} (M : Md X.prog X.w X.K X.mg X.base C CX0 k "__len__" ps sp) (sb : Sub X (k + 1) A1) (I : Inv X pins σ H s) (ha : H a = some (.ins C dx fs))
    (q : sp [.ref a] H (fun v H' => ∃ n : Nat, v = .int n ∧ n ≤ sizeLine ∧ (∃ n' : Nat, V.int n = .int n' ∧ n' ≤ sizeLine) ∧ H' = H) fun _ _ _ => False) (h : ∀ b s', Inv X pins σ H s' → (∀ b o, s.heap.get? b = some o → H b = none → b ∉ frs X.stack → s'.heap.get? b = some o) → Q b s') : wpAny (model X.prog X.w) A1 (Builtin.List.listLengthHint (.ref a)) Q Er s := by
  obtain ⟨f, fd, hm, G, hb⟩ := M.ex
  obtain ⟨mA, J, _⟩ := ins_get I.hok ha
  obtain ⟨od, J, _⟩ := J.look
  unfold Builtin.List.listLengthHint
  refine wpAny_bind (wpAny_bind (J.type.here ((PySem.W.looks_findIn I.kIn hm.at_).here ?_)))
  refine PySem.W.KFB.if_not rfl ?_
  refine wpAny_ite_split (fun _ => ?_) (fun z => absurd rfl z)
  refine wpAny_bind (wpAny_rule ?_)
  refine wpAny_bind (wpAny_attempt (wpAny_mono (len_run0 (Q := fun v H' => (∃ n : Nat, v = .int n ∧ n ≤ sizeLine) ∧ H' = H) M sb I ha q) (fun r s' hq => ?_) fun _ _ z => z.elim))
  · obtain ⟨⟨v, H', I', rv, ⟨n, rfl, hn⟩, rfl⟩, kp⟩ := hq
    obtain ⟨t, rfl⟩ := rv
    refine wpAny_bind (wpAny_pure ?_)
    show wpAny _ _ (if Builtin.List.listTooLong ((n : Int).toNat) = true then _ else _) _ _ _
    rw [show ((n : Int).toNat) = n from rfl, notLongL hn]
    exact wpAny_pure (h _ _ I' kp)
/-- list(o) -/
def rListOwn (C : Addr) (t : Str) (sp : Sp) : List V → Hp → VK → Prop := fun xs H Q => ∃ (a dx l : Addr) (fs : List (Str × V)) (zs : List V), xs = [.ref a] ∧ H a = some (.ins C dx fs) ∧ fs.lookup t = some (.ref l) ∧ H l = some (.tup zs) ∧ zs.length ≤ sizeLine ∧
  (∀ q, H q = none → sp [.ref a] (upd H q (.lst [])) (fun v H' => ∃ n : Nat, v = .int n ∧ n ≤ sizeLine ∧ (∃ n' : Nat, V.int n = .int n' ∧ n' ≤ sizeLine) ∧ H' = upd H q (.lst [])) fun _ _ _ => False) ∧ ∀ q, H q = none → Q (.ref q) (upd H q (.lst zs))
theorem call_listOwnT (Mi : IterM X.prog X.w X.K X.mg X.base k C t) (M : Md X.prog X.w X.K X.mg X.base C CX0 k "__len__" ps sp) (hr : Room (k + 3) X.A) : CallR X (.type "list") (rListOwn C t sp) := by
  intro pins s σ H xs us Q I rv h
  obtain ⟨a, dx, l, fs, zs, rfl, ha, ht, hl, hzs, hn, hq⟩ := h
  obtain ⟨u, rfl, ru⟩ := rv.one
  cases ru
  have sb : Sub X (k + 1) X.A.in1.in1 := Sub.in1 (Sub.in1 (⟨hr, rfl⟩ : Sub X (k + 3) X.A))
  refine callType_codes (Q₁ := fun obj s₁ => obj = .ref s.heap.objs.size ∧ s₁ = { s with heap := s.heap.push { cls := .type "list", data := .seq #[] } }) PySem.F.called_list (PySem.F.typeCall_list_1 _) PySem.F.entry_list_init
    (code_list_new _ ⟨rfl, rfl⟩) fun obj s₁ h₁ => ?_
  obtain ⟨rfl, rfl⟩ := h₁
  have hS : (s.heap.push { cls := .type "list", data := .seq #[] }).get? s.heap.objs.size = some { cls := .type "list", data := .seq #[] } := Heap.get?_push_size _ rfl
  refine ⟨⟨_, hS, rfl⟩, PySem.F.args_list_init_2 _ _, ?_⟩
  have fr : H s.heap.objs.size = none := I.hok.fresh (Nat.le_refl _)
  have I1 : Inv X pins σ (upd H s.heap.objs.size (.lst [])) { s with heap := s.heap.push { cls := .type "list", data := .seq #[] } } := I.lnew (its := []) (t' := s.toks) .nil (Nat.zero_le _)
  have hnq := hn _ fr
  have hqq := hq _ fr
  show wpAny _ _ (do let old ← Builtin.List.listItems (.ref s.heap.objs.size); Builtin.List.listUpdate (.ref s.heap.objs.size) (fun _ => #[]); letGo old.toList.reverse; Builtin.List.listExtendWith (.ref s.heap.objs.size) (.ref a) .none) _ _ _
  refine wpAny_bind ?_
  unfold Builtin.List.listItems
  refine wpAny_bind (wpAny_seqItems hS rfl (wpAny_pure ?_))
  show wpAny _ _ (updateSeq s.heap.objs.size (fun _ => #[]) >>= fun _ => letGo (#[] : Array Value).toList.reverse >>= fun _ => Builtin.List.listExtendWith (.ref s.heap.objs.size) (.ref a) .none) _ _ _
  refine wpAny_bind (wpAny_updateSeq hS rfl ?_)
  have I2 := I1.lset (f := fun _ => #[]) (its := []) (its' := []) (ys := []) (t' := s.toks) upd_same hS rfl .nil (Nat.zero_le _)
  rw [upd_upd] at I2
  refine wpAny_bind (wpAny_letGo ?_)
  have ha2 : upd H s.heap.objs.size (.lst []) a = some (.ins C dx fs) := by rw [upd_ne (ne_of_none ha fr)]; exact ha
  have hlq : ∀ ys, upd H s.heap.objs.size (.lst ys) l = some (.tup zs) := fun ys => by rw [upd_ne (ne_of_none hl fr)]; exact hl
  generalize s.heap.objs.size = q at hnq hqq I2 ha2 hlq fr ⊢
  generalize ({ heap := _, gens := _, drawn := _, toks := _, os := _ } : Shared) = s2 at I2 ⊢
  have hne : q ≠ a := ne_of (H := upd H q (.lst [])) upd_same ha2 (fun z => nomatch z)
  obtain ⟨mA, J, _⟩ := ins_get I2.hok ha2
  obtain ⟨od, J, _⟩ := J.look
  unfold Builtin.List.listExtendWith
  refine wpAny_bind (J.type.here ?_)
  have h1 : Builtin.List.listSameRef (.ref q) (.ref a) = false := by simp [Builtin.List.listSameRef, hne]
  have h2 : (Value.ref C == Value.type "list") = false := rfl
  have h3 : (Value.ref C == Value.type "tuple") = false := rfl
  simp only [h1, h2, h3, Bool.or_false, Bool.false_eq_true, if_false]
  refine wpAny_bind (iter_run Mi (sb.mono (Nat.le_succ _)) I2 ha2 ht (SqT.of (hlq _)) fun it s3 I3 st fp => ?_)
  refine wpAny_bind (wpAny_holding (own_hint M sb I3 ha2 hnq fun room s4 I4 kp => ?_))
  obtain ⟨oi, e1, e2⟩ := id st
  have nf : it ∉ frs X.stack := fun z => by
    rcases List.mem_cons.mp (I3.stkSub _ z) with e | e
    · exact fp.2.1 e
    · exact fp.2.2.1 e
  have st4 : s4.heap.IsTupleIter it l 0 := ⟨oi, kp it oi e1 fp.1 nf, e2⟩
  have hqi : it ≠ q := fun z => by
    have := fp.1
    rw [z, upd_same] at this
    cases this
  have hi : H it = none := by
    have := fp.1
    rw [upd_ne hqi] at this
    exact this
  have loop : ∀ s5, Inv X pins σ (upd H q (.lst [])) s5 → s5.heap.IsTupleIter it l 0 → codeAny (model X.prog X.w) X.A.in1 (.builtin "list.extend.loop" ⟨[.ref q, .ref it, .none], []⟩) (wants (fun r s₂ => r = .none ∧ EP X pins σ Q (.ref q) s₂) X.xe) s5 := fun s5 I5 st5 =>
    tup_loop (A1 := X.A.in1) (H0 := H) (zs := zs) (show X.A.in1.handled = none from hr.hd) hqi hzs (fun ys => SqT.of (hlq ys)) hi (fun s' I' => ⟨rfl, .ref q, _, I', rfl, hqq⟩) _ 0 s5 rfl (Nat.zero_le _) I5 st5 fp
  obtain ⟨z, its, kk, r3, hl3, e3⟩ := I4.lstM upd_same
  cases r3
  refine wpAny_ite_split (fun _ => ?_) (fun _ => wpAny_pure ⟨plainId_quiet PySem.F.plain_extend_loop _, loop s4 I4 st4⟩)
  refine wpAny_bind (wpAny_rule ?_)
  refine wpAny_bind ?_
  show wpAny _ _ (updateSeq q (·.push .none) >>= fun _ => updateSeq q (·.pop)) _ _ _
  refine wpAny_bind (wpAny_updateSeq e3 rfl ?_)
  have I5 := I4.lset (f := (·.push Value.none)) (its' := [Value.none]) (ys := [.non]) (t' := s4.toks) upd_same e3 (by simp) (.cons rfl .nil) (by rw [List.length_singleton, sizeLine_eq]; decide)
  obtain ⟨z4, its4, k4, r4, hl4, e4⟩ := I5.lstM upd_same
  obtain ⟨u4, rfl, ru4⟩ := r4.one
  refine wpAny_updateSeq e4 rfl ?_ (by show 1 ≤ sizeLine; rw [sizeLine_eq]; decide) (by show 0 ≤ sizeLine + 1; exact Nat.zero_le _)
  have I6 := I5.lset (f := (·.pop)) (its := [u4]) (its' := []) (ys := []) (t' := s4.toks) upd_same e4 (by rfl) .nil (Nat.zero_le _)
  rw [upd_upd, upd_upd] at I6
  refine wpAny_pure ⟨plainId_quiet PySem.F.plain_extend_loop _, loop _ I6 ?_⟩
  exact ⟨oi, by rw [Heap.get?_update_ne _ _ _ _ hqi, Heap.get?_update_ne _ _ _ _ hqi]; exact kp it oi e1 fp.1 nf, e2⟩
end
end Wd
end
section
set_option Elab.async false
set_option linter.all false
set_option maxRecDepth 100000
set_option maxHeartbeats 4000000
set_option pp.maxSteps 600
/-! ### an error with one field, made of a value and raised -/
namespace Wd
open PySem PySem.Spec PyProof.Rows L2 Wt TL NumText
def spIni (C : Addr) (f : Str) (K : PySem.W.Frag) : Sp := fun vs H Q _ => ∃ (a : Addr) (v : V), vs = [.ref a, v] ∧ H a = some (exo a C none) ∧
  ∀ d, H d = none → d ≠ a → Q .non (upd (upd H d (exd d [(f, v)])) a (exo a C (some d)))
/-- the class of an error with one field -/
structure Er (P : Program) (w : World) (K : PySem.W.Frag) (mg : Str → Option Value) (base : Heap) (x f : Str) (C : Addr) : Prop where
  glo : mg x = some (.ref C)
  oex : OexC K C
  err : ErrC K C
  nof : PySem.W.findIn K (.ref C) f = some none
  exm : PySem.W.exmOne K (.ref C) (.ref C) = some true
  ini : ∃ fI fd, PySem.W.findIn K (.ref C) "__init__" = some (some (.ref fI)) ∧ PySem.W.typeIn K (.ref fI) = some (.type "function") ∧
    FnOk P w K mg base CX0 1 fI fd ["self", f] (spIni C f K) ∧ Binds K fd ["self", f] []
section
variable {X : Cx} {p p2 pos pos2 : Pos} {x f y : Str}
/-- what stands in the i-th slot becomes the field of the error -/
def tErrV (C : Addr) (f : Str) (i : Nat) (W : WX) : TS := fun _ σ H => ∃ v, (σ[i]? = some (some v)) ∧ ∀ d H', Same H H' → H d = none → H' d = some (.xd [(f, v)]) → W (.ref C) (some d) σ H'
theorem ps_errV {C : Addr} {W : WX} (i : Nat) (hc : X.calm = true) (B : Er X.prog X.w X.K X.mg X.base x f C) (hr : Room 2 X.A) (tk : Takes X W) (hN : X.N[i]? = some y := by rfl) (hv : Vis X.env.scope y := by first | exact Or.inl rfl | exact Or.inr (Or.inl rfl) | exact Or.inr (Or.inr rfl)) (hg : Gl X x := by rfl)
    (hd : (y == ("__debug__" : Str)) = false := by decide) (hcd : (y == ("__classdict__" : Str)) = false := by decide) (hdx : (x == ("__debug__" : Str)) = false := by decide)
    (he : starEach [(.Name y p2)] X.env = (false, eval (.Name y p2) X.env) :: starEach [] X.env := by rfl) (hpl : (backTo pos (starEach [] X.env)).any (·.1) = false := by rfl) :
    PS X (.Raise (some (.Call (.Name x p) [.Name y p2] [] pos)) none pos2) (tErrV C f i W) := by
  obtain ⟨fI, fd, iC, tI, G, hb⟩ := B.ini
  have R := ps_raise (pos := pos2) hc tk (pmk_oex (p := p) (pos := pos) B.oex iC tI G hr hb .nil pass0 hg B.glo (pa_cons (pv (X := X) i (pos := p2) hN hv hd hcd) pa_nil) hdx he hpl)
  constructor
  intro pins s σ H D I h
  obtain ⟨v, ev, h⟩ := h
  refine R.run pins s σ H D I ?_
  refine ⟨v, ev, (by show 1 ≤ 1000; decide), fun a ha => ⟨a, v, rfl, upd_same, fun d hd hda => ⟨rfl, d, _, upd_same, by rw [upd_ne hda, upd_same], ?_, ?_⟩⟩⟩
  · rw [upd_ne hda] at hd
    exact hd
  · have hd0 : H d = none := by
      rw [upd_ne hda] at hd
      exact hd
    refine h d _ (fun b o z => ?_) hd0 upd_same
    have n1 := ne_of_none z ha
    have n2 := ne_of_none z hd0
    rw [upd_ne n2, L2.del_ne n1, upd_ne n1, upd_ne n2, upd_ne n1]
    exact z
end
section
variable {X : Cx} {p pos pos2 : Pos} {x f : Str} {ee : Expr} {te : TE}
/-- what an error that is made of v and raised asks -/
def ErrRaw (K : PySem.W.Frag) (C : Addr) (f : Str) (W : WX) (σ : L2.St) (v : V) (H : Hp) : Prop := [v].length ≤ 1000 ∧ ∀ a, H a = none → spIni C f K (.ref a :: ([v] ++ [])) (upd H a (exo a C none))
  (fun u H2 => u = .non ∧ ∃ (d : Addr) (fs : List (Str × V)), H2 a = some (exo a C (some d)) ∧ H2 d = some (exd d fs) ∧ H d = none ∧ W (.ref C) (some d) σ (upd (L2.del H2 a) d (.xd fs))) (fun _ _ _ => False)
theorem errRaw {K : PySem.W.Frag} {C : Addr} {f : Str} {W : WX} {σ : L2.St} {v : V} {H : Hp} (h : ∀ d H', Same H H' → H d = none → H' d = some (.xd [(f, v)]) → W (.ref C) (some d) σ H') : ErrRaw K C f W σ v H := by
  refine ⟨(by show 1 ≤ 1000; decide), fun a ha => ⟨a, v, rfl, upd_same, fun d hd hda => ⟨rfl, d, _, upd_same, by rw [upd_ne hda, upd_same], ?_, ?_⟩⟩⟩
  · rw [upd_ne hda] at hd
    exact hd
  · have hd0 : H d = none := by
      rw [upd_ne hda] at hd
      exact hd
    refine h d _ (fun b o z => ?_) hd0 upd_same
    have n1 := ne_of_none z ha
    have n2 := ne_of_none z hd0
    rw [upd_ne n2, L2.del_ne n1, upd_ne n1, upd_ne n2, upd_ne n1]
    exact z
def tErrE (K : PySem.W.Frag) (C : Addr) (f : Str) (te : TE) (W : WX) : TS := fun _ σ H => te σ H fun v H1 => ErrRaw K C f W σ v H1
theorem errC {K : PySem.W.Frag} {C : Addr} {f : Str} {W : WX} {D : Ends} {σ : L2.St} {v : V} {H : Hp} (h : ∀ d H', Same H H' → H d = none → H' d = some (.xd [(f, v)]) → W (.ref C) (some d) σ H') : tErrE K C f (tC v) W D σ H := by
  show ErrRaw K C f W σ v H
  exact errRaw h
/-- raise X(e) -/
theorem ps_errE {C : Addr} {W : WX} (hc : X.calm = true) (B : Er X.prog X.w X.K X.mg X.base x f C) (hr : Room 2 X.A) (tk : Takes X W) (pe : PE X ee te) (hg : Gl X x := by rfl) (hdx : (x == ("__debug__" : Str)) = false := by decide)
    (he : starEach [ee] X.env = (false, eval ee X.env) :: starEach [] X.env := by rfl) (hpl : (backTo pos (starEach [] X.env)).any (·.1) = false := by rfl) :
    PS X (.Raise (some (.Call (.Name x p) [ee] [] pos)) none pos2) (tErrE X.K C f te W) := by
  obtain ⟨fI, fd, iC, tI, G, hb⟩ := B.ini
  exact ps_raise (pos := pos2) hc tk (pmk_oex (p := p) (pos := pos) B.oex iC tI G hr hb .nil pass0 hg B.glo (pa_cons pe pa_nil (hs := by first | exact he.trans rfl | exact he)) hdx he hpl)
end
end Wd
end
section
set_option Elab.async false
set_option linter.all false
set_option maxRecDepth 100000
set_option maxHeartbeats 2000000
set_option pp.maxSteps 600
/-! ### defs that make lambdas -/
namespace Wd
open PySem PySem.Spec PyProof.Rows L2 LamX
/-- a def whose code object is told -/
theorem funD_okL {P : Program} {w : World} {K : PySem.W.Frag} {mg : Str → Option Value} {base : Heap} {x qual : Str} {params : Arguments} {body : List Stmt} {scope : Scope} {dvs : List V} {kws : List (Str × V)} {p : He.Defn} {fd : FuncData}
    {CX : CXT} {N ps : List Str} {k : Nat} {sp : Sp} (F : FunD K x qual params body scope dvs kws (He.fAd K p) fd) (S : FnScope N ps scope) (len : ∀ vs H Q E, sp vs H Q E → vs.length = ps.length)
    (hbody : ∀ (cdv : Value) (A : Around) (outer : List Env) (s : Shared) (H : Hp) (vs : List V) (Q : VK) (E : XK), cdv = .ref (He.cT K p).1 → Room k (A.deeper (envOfC qual scope s.heap.objs.size (He.fAd K p) cdv)) → sp vs H Q E →
      ∃ t, PSs (cxOf CX P w K mg base N qual scope (He.fAd K p) cdv A outer s H E) body t ∧ t { nx := fun _ H' => Q .non H', rt := Q } (L2.start N vs) H) : FnOk P w K mg base CX (k + 1) (He.fAd K p) fd ps sp := by
  obtain ⟨oc, od, dV, kV, doc, pm, an, cdv, ct, osl, rfl, lk, hcd, _, _⟩ := F.ex
  obtain ⟨c, ec⟩ := He.codeIn_ref hcd
  have e1 : He.codeOf K p = c := He.codeOf_eq lk (by subst ec; rfl)
  refine fn_of lk hcd S len fun A outer s H vs Q E hr hsp => hbody cdv A outer s H vs Q E ?_ hr hsp
  show cdv = .ref (He.codeOf K p)
  rw [e1, ec]
/-- g(lambda: body), g a def that is told by FunD -/
theorem pe_lamF {X : Cx} {K : PySem.W.Frag} {T : List (Addr × Str)} {TT : (XK → Hp → VK → Prop) → Hp → VK → Prop} {x a : Str} {g c P : Addr} {k : Nat} {pg : Arguments} {bg : List Stmt} {sg : Scope} {fdg : FuncData} {Ng : List Str}
    {params : Arguments} {body : Expr} {scope : Scope} {t : XK → TE} {p lpos pos : Pos} (hK : X.K = K) (F : FunD K x x pg bg sg [] [] g fdg) (hg : Gl X x) (hm : X.mg x = some (.ref g))
    (hb : ∀ (kV doc pm : Value) (an : Option Addr) (cdv ct : Value) (us : List Value), us.length = [a].length → bindArgs (PySem.W.fnOf x x pg bg sg .none kV doc pm an cdv ct) ⟨us, []⟩ = pure ([a].zip us)) (Sg : FnScope Ng [a] sg) (hNg : Ng[0]? = some a) (hva : Vis sg a)
    (hG : ∀ cdv, GivesTo X Ng x sg g cdv bg a (X.env.qual ++ "<lambda>") TT)
    (TB : TabB X.base X.mg c P) (hcode : X.env.code = .ref c) (hmT : (P, X.env.qual ++ "<lambda>") ∈ T) (hu : ∀ p ∈ T, p.1 = P → p.2 = X.env.qual ++ "<lambda>") (hr : Room (k + 2) X.A) (L : LamS X.env.scope scope) (hdef : defaultsOf params X.env = ([], []))
    (hbind : ∀ (q : Str) (cl : List (Str × Addr)) (pm cv ctv : Value), bindArgs (PySem.W.kla_fn "<lambda>" q params body scope cl pm cv ctv) ⟨[], []⟩ = pure [])
    (hbody : ∀ (A : Around) (outer : List Env) (s : Shared) (H : Hp) (E : XK) (f c' : Addr), Room k (A.deeper (lamEnv X scope s.heap.objs.size f c')) → PE (lamCx X A outer s H E scope f c') body (t E))
    (hdb : (x == ("__debug__" : Str)) = false := by decide) (hd : (a == ("__debug__" : Str)) = false := by decide) (hcd : (a == ("__classdict__" : Str)) = false := by decide) :
    PE X (.Call (.Name x p) [.Lambda params body scope lpos] [] pos) (tLam T TT t) := by
  subst hK
  have hbb := F.bindsN (ps := [a]) hb
  have hkp := F.kp
  obtain ⟨oc, od, dV, kV, doc, pm, an, cdv, ct, osl, rfl, lk, hcd', _, _⟩ := F.ex
  exact pe_lamcall hg hm hkp lk hcd' hbb Sg hNg hva (hG cdv) TB hcode hmT hu hr L hdef hbind hbody hdb hd hcd
/-- all but tables stays: told of what is no table -/
theorem ExtN.at {H H' : Hp} (e : ExtN H H') {a : Addr} {o : HO} (h : H a = some o) (n : ∀ ps, o ≠ .tbl ps) : H' a = some o := e a o h n
end Wd
end
section
set_option Elab.async false
set_option linter.all false
set_option maxRecDepth 100000
set_option maxHeartbeats 2000000
set_option pp.maxSteps 900
/-! Kept lambdas: what is told of one, and its call by a def within a comprehension. -/
namespace Wd
open PySem PySem.Spec PyProof.Rows L2 LamX
/-- what a lambda's text does within X, k levels of room above it -/
structure LamD (X : Cx) (k : Nat) (params : Arguments) (body : Expr) (scope : Scope) (t : XK → TE) : Prop where
  sc : LamS X.env.scope scope
  bind : ∀ (q : Str) (cl : List (Str × Addr)) (pm cv ctv : Value), bindArgs (PySem.W.kla_fn "<lambda>" q params body scope cl pm cv ctv) ⟨[], []⟩ = pure []
  does : ∀ (A : Around) (outer : List Env) (s : Shared) (H : Hp) (E : XK) (f c' : Addr), Room k (A.deeper (lamEnv X scope s.heap.objs.size f c')) → PE (lamCx X A outer s H E scope f c') body (t E)
/-- f is a lambda that X made, its body read by t -/
def Kept (X : Cx) (k : Nat) (H : Hp) (f : Addr) (t : XK → TE) : Prop :=
  ∃ (params : Arguments) (body : Expr) (scope : Scope) (c' : Addr) (pm ctv : Value), H f = some (FunO f (lamO X params body scope pm c' ctv)) ∧ H c' = some (CodeO c' (X.env.qual ++ "<lambda>")) ∧ LamD X k params body scope t
theorem Kept.ext {X : Cx} {k : Nat} {H H' : Hp} {f : Addr} {t : XK → TE} (h : Kept X k H f t) (e : ExtN H H') : Kept X k H' f t := by
  obtain ⟨a, b, c, d, p, q, h1, h2, h3⟩ := h
  exact ⟨a, b, c, d, p, q, e _ _ h1 FunO.ne, e _ _ h2 codeO_ne, h3⟩
theorem Kept.same {X : Cx} {k : Nat} {H H' : Hp} {f : Addr} {t : XK → TE} (h : Kept X k H f t) (e : ∀ b o, H b = some o → H' b = some o) : Kept X k H' f t := h.ext (ExtN.of e)
/-- the reading of a lambda that is kept -/
def tKeep (X : Cx) (T : List (Addr × Str)) (k : Nat) (t : XK → TE) : TE := fun _ H Q => Tabs T H ∧ ∀ (f : Addr) (H1 : Hp), ExtN H H1 → (∀ b, H1 b = none → H b = none) → Tabs T H1 → H f = none → Kept X k H1 f t → Q (.ref f) H1
theorem pe_keep {X : Cx} {T : List (Addr × Str)} {c P : Addr} {k : Nat} {params : Arguments} {body : Expr} {scope : Scope} {pos : Pos} {t : XK → TE} (TB : TabB X.base X.mg c P) (hcode : X.env.code = .ref c) (hm : (P, X.env.qual ++ "<lambda>") ∈ T)
    (hu : ∀ p ∈ T, p.1 = P → p.2 = X.env.qual ++ "<lambda>") (L : LamS X.env.scope scope) (hdef : defaultsOf params X.env = ([], []))
    (hbind : ∀ (q : Str) (cl : List (Str × Addr)) (pm cv ctv : Value), bindArgs (PySem.W.kla_fn "<lambda>" q params body scope cl pm cv ctv) ⟨[], []⟩ = pure [])
    (hbody : ∀ (A : Around) (outer : List Env) (s : Shared) (H : Hp) (E : XK) (f c' : Addr), Room k (A.deeper (lamEnv X scope s.heap.objs.size f c')) → PE (lamCx X A outer s H E scope f c') body (t E)) :
    PE X (.Lambda params body scope pos) (tKeep X T k t) :=
  ⟨fun pins s σ H Q I h => (pe_lamV (pos := pos) TB hcode hm hu L hdef).run pins s σ H Q I ⟨h.1, fun f c' pm ctv H1 ex dom tabs nf hf hc => h.2 f H1 ex dom tabs nf ⟨params, body, scope, c', pm, ctv, hf, hc, L, hbind, hbody⟩⟩⟩
section
variable {X : Cx} {pins : List (Addr × Obj)} {σ : L2.St} {H : Hp} {s : Shared}
/-- a() in the def that got the kept lambda f -/
theorem pe_actK {CXg : CXT} {Eg : XK} {Ng : List Str} {qg : Str} {sg : Scope} {g f c' : Addr} {cdg pm ctv : Value} {params : Arguments} {body : Expr} {scope : Scope} {k i : Nat} {a : Str} {pn : List (Addr × Obj)} {xe : Value → Shared → Prop} {W : WX} {E : XK} {tb : TE} {p1 p2 : Pos}
    (I : Inv X pins σ H s) (L : LamS X.env.scope scope) (hbind : bindArgs (PySem.W.kla_fn "<lambda>" (X.env.qual ++ "<lambda>") params body scope (cloFrom X.env.cells scope.names []) pm (.ref c') ctv) ⟨[], []⟩ = pure [])
    (tk : Takes ((cxOf CXg X.prog X.w X.K X.mg X.base Ng qg sg g cdg X.A X.stack s H Eg).tr pn xe) W) (out : ∀ cls d σ' H', E cls d H' → W cls d σ' H') (room : Room (k + 1) (X.A.deeper (envOfC qg sg s.heap.objs.size g cdg)))
    (does : ∀ (A : Around) (outer : List Env) (s : Shared) (H : Hp), Room k (A.deeper (lamEnv X scope s.heap.objs.size f c')) → PE (lamCx X A outer s H E scope f c') body tb)
    (hN : Ng[i]? = some a) (hv : Vis sg a) (hd : (a == ("__debug__" : Str)) = false := by decide) (hcd : (a == ("__classdict__" : Str)) = false := by decide) :
    PE ((cxOf CXg X.prog X.w X.K X.mg X.base Ng qg sg g cdg X.A X.stack s H Eg).tr pn xe) (.Call (.Name a p1) [] [] p2)
      (fun σZ HZ Q => σZ[i]? = some (some (.ref f)) ∧ HZ c' = some (CodeO c' (X.env.qual ++ "<lambda>")) ∧ HZ f = some (FunO f (lamO X params body scope pm c' ctv)) ∧ tb σ HZ Q) := by
  refine ⟨fun pinsZ sZ σZ HZ Q IZ ⟨slot, code, fobj, want⟩ => ?_⟩
  refine wpAny_Call_Name_kw (thn ((pe_var (pos := p1) (i := i) hN hv hd hcd).run pinsZ sZ σZ HZ (fun v H1 => v = .ref f ∧ H1 = HZ) IZ ⟨.ref f, slot, rfl, rfl⟩) fun u s1 ⟨v, H1, I1, rel, ev, eH⟩ => ?_)
  subst ev
  subst eH
  obtain rfl : u = Value.ref f := rel
  have isF : s1.heap.get? f = some (lamO X params body scope pm c' ctv) := (I1.hok f _ fobj).1
  obtain ⟨oc, vs, t, isC, dC, nC⟩ := (I1.hok c' _ code).1
  refine PySem.W.callWith_F0 ⟨_, _, _, _, isF⟩ ?_
  have un : Un (frs X.stack) [] H H1 s.heap s1.heap := I1.base
  have ran : codeAny (model X.prog X.w) (X.A.deeper (envOfC qg sg s.heap.objs.size g cdg)) (.call (.ref f) ⟨[], []⟩) (CR (L2.CX X.prog X.w) (envOfC qg sg s.heap.objs.size g cdg :: X.stack) X.prog X.w H1 s1 Q E) s1 := by
    refine PySem.W.kla_callFunE room.depth isF rfl L.co L.gen rfl ⟨c', oc, vs, t, rfl, isC, dC, nC⟩ ?_
    rw [hbind]
    refine wpAny_pure (wpAny_newFunctionEnv (fun y hy => (L.own y hy).2) (fun y hy => absurd hy (by simp)) (fun h₁ hns hsb => ⟨I1.nolimit.fresh _ hsb, ?_⟩) L.kind)
    show codeAny _ _ (.expr body (lamEnv X scope s1.heap.objs.size f c')) _ _
    have J := lam_start2 (E := E) (f := f) (c' := c') (tk := s1.toks + ([] : List (Str × Value)).length) I L I1.env0 room.hd un hns (fun b o e => hsb.extBut b o (Nat.ne_of_lt (Heap.lt_size e)) (Heap.get?_push_of_some _ e))
    refine PySem.W.kla_codeExpr (wpAny_mono ((does _ _ s1 H1 (room.deeper _)).run [] _ _ H1 Q J want) (fun v s' ⟨w', H', K, rv, q⟩ => ⟨w', H', K.os, K.bare, K.base, K.hok, rv, q⟩) fun e s' hq => hq)
  have passes : Passes (L2.CX X.prog X.w) ((cxOf CXg X.prog X.w X.K X.mg X.base Ng qg sg g cdg X.A X.stack s H Eg).tr pn xe) E := passes_call tk out
  refine wpAny_call (codeAny_mono ran fun r s' hq => ?_)
  rcases r with e | fl
  · exact passes pinsZ σZ H1 s1 e s' I1 hq
  · cases fl with
    | ret u => exact I1.after hq
    | next => exact hq.elim
    | brk => exact hq.elim
    | cont => exact hq.elim
end
/-- the reading of x(y), y a kept lambda in slot i; the maker's slots are σ0 -/
def tKept (X : Cx) (k i : Nat) (TT : (XK → Hp → VK → Prop) → Hp → VK → Prop) (σ0 : L2.St) : TE := fun σ H Q => ∃ (f : Addr) (t : XK → TE), σ[i]? = some (some (.ref f)) ∧ Kept X k H f t ∧
  ∀ o, H f = some (FunO f o) → TT (fun E H' Q' => H' f = some (FunO f o) ∧ t E σ0 H' Q') H Q
theorem pe_keptcall {X : Cx} {K : PySem.W.Frag} {TT : (XK → Hp → VK → Prop) → Hp → VK → Prop} {pins : List (Addr × Obj)} {σ0 : L2.St} {H0 : Hp} {s0 : Shared} {fp : List Addr} {scope : Scope} {ce : Env} {x a y : Str} {g : Addr} {k i : Nat} {pg : Arguments} {bg : List Stmt} {sg : Scope} {fdg : FuncData} {Ng : List Str} {p py pos : Pos}
    (B : BlkAt X pins σ0 H0 s0 fp) (hK : X.K = K) (F : FunD K x x pg bg sg [] [] g fdg) (hg : Gl (X.blk s0 H0 scope ce fp) x) (hm : X.mg x = some (.ref g))
    (hb : ∀ (kV doc pm : Value) (an : Option Addr) (cdv ct : Value) (us : List Value), us.length = [a].length → bindArgs (PySem.W.fnOf x x pg bg sg .none kV doc pm an cdv ct) ⟨us, []⟩ = pure ([a].zip us)) (Sg : FnScope Ng [a] sg) (hNg : Ng[0]? = some a) (hva : Vis sg a)
    (hG : ∀ cdv, GivesTo X Ng x sg g cdv bg a (X.env.qual ++ "<lambda>") TT) (hr : Room (k + 2) X.A) (hN : X.N[i]? = some y) (hv : Vis ce.scope y)
    (hdb : (x == ("__debug__" : Str)) = false := by decide) (hd : (a == ("__debug__" : Str)) = false := by decide) (hcd : (a == ("__classdict__" : Str)) = false := by decide)
    (hyd : (y == ("__debug__" : Str)) = false := by decide) (hyc : (y == ("__classdict__" : Str)) = false := by decide) :
    PE (X.blk s0 H0 scope ce fp) (.Call (.Name x p) [.Name y py] [] pos) (tKept X k i TT σ0) := by
  subst hK
  have hbb := F.bindsN (ps := [a]) hb
  have hkp := F.kp
  obtain ⟨oc, od, dV, kV, doc, pm, an, cdv, ct, osl, rfl, lk, hcd', _, _⟩ := F.ex
  refine ⟨fun pins' s σ H Q I ⟨f, t, slot, kept, want⟩ => ?_⟩
  refine wpAny_Call_Name_kw (ld_glob I hg hm ?_ hdb)
  refine PySem.W.callWith_K (h₀ := X.base) I.ok.mod.kin hkp ?_ (by rfl) (by rfl)
  show wpAny _ _ (spliced ((false, eval (.Name y py) ce) :: backTo pos (starEach [] ce))) _ _ s
  refine Calls.spliced_cons (thn ((pe_var (X := X.blk s0 H0 scope ce fp) (pos := py) (i := i) hN hv hyd hyc).run pins' s σ H (fun v H1 => v = .ref f ∧ H1 = H) I ⟨.ref f, slot, rfl, rfl⟩) fun u s1 ⟨v, H1, I1, rel, ev, eH⟩ => ?_)
  subst ev
  subst eH
  obtain rfl : u = Value.ref f := rel
  refine Calls.spliced_nil ⟨I1.kIn, ?_⟩
  have J := B.now I1
  obtain ⟨params, body, lsc, c', lpm, ctv, hf, hc, D⟩ := kept
  have ran : codeAny (model X.prog X.w) X.A (.call (.ref g) ⟨[.ref f], []⟩) (CR C8.CX0 X.stack X.prog X.w H1 s1 Q C8.E0) s1 := by
    refine run_ofS (N := Ng) (ps := [a]) (us := [.ref f]) (vs := [.ref f]) lk hcd' Sg hr J.env0 (hbb s1 [.ref f] J.kIn rfl) (.cons rfl .nil) rfl fun hr' => ?_
    obtain ⟨t', ht', hq'⟩ := hG cdv f c' s1 H1 Q (fun E H' Q' => H' f = some (FunO f (lamO X params body lsc lpm c' ctv)) ∧ t E σ0 H' Q')
      (fun W pn xe E p1 p2 tk hW => pe_actK (i := 0) J D.sc (D.bind _ _ _ _ _) tk hW hr' (fun A outer s H hr2 => D.does A outer s H E f c' hr2) hNg hva hd hcd) hc (want _ hf)
    exact ⟨t', ht'.nox, hq'⟩
  refine wpAny_call (codeAny_mono ran fun r s2 hq => ?_)
  rcases r with e | fl
  · exact (show False from hq).elim
  · cases fl with
    | ret u => exact I1.after hq
    | next => exact hq.elim
    | brk => exact hq.elim
    | cont => exact hq.elim
end Wd
end
section
set_option Elab.async false
set_option linter.all false
set_option maxRecDepth 100000
set_option maxHeartbeats 2000000
set_option pp.maxSteps 600
/-! ### NoProgram, NoZone: home_of, offset_of of any value -/
namespace Wd
open PySem PySem.Spec PyProof.Rows L2 Wt TL NumText
/-- what is no text, or a text that nothing is called by -/
inductive OddV (hs : Str → Bool) (H : Hp) : V → Prop
  | str (z : Str) (h : hs z = false) : OddV hs H (.str z)
  | int (n : Int) : OddV hs H (.int n)
  | bl (b : Bool) : OddV hs H (.bl b)
  | non : OddV hs H .non
  | tup {a : Addr} {xs : List V} (e : H a = some (.tup xs)) : OddV hs H (.ref a)
  | lst {a : Addr} {xs : List V} (e : H a = some (.lst xs)) : OddV hs H (.ref a)
theorem OddV.same {hs : Str → Bool} {H H' : Hp} {v : V} (h : OddV hs H v) (e : ∀ a o, H a = some o → (∀ ps, o ≠ .tbl ps) → H' a = some o) : OddV hs H' v := by
  cases h with
  | str z h => exact .str z h
  | int n => exact .int n
  | bl b => exact .bl b
  | non => exact .non
  | tup q => exact .tup (e _ _ q (fun _ => nofun))
  | lst q => exact .lst (e _ _ q (fun _ => nofun))
theorem OddV.isStr {K : PySem.W.Frag} {hs : Str → Bool} {H : Hp} {v : V} (h : OddV hs H v) : (∃ z, v = .str z ∧ hs z = false) ∨ ∃ t, TyX K H v t ∧ PySem.W.kitOne K t (.type "str") = some false := by
  cases h with
  | str z h => exact .inl ⟨z, rfl, h⟩
  | int n => exact .inr ⟨_, .base (.int n), kit_ty (by decide +kernel)⟩
  | bl b => exact .inr ⟨_, .base (.bl b), kit_ty (by decide +kernel)⟩
  | non => exact .inr ⟨_, .base .non, kit_ty (by decide +kernel)⟩
  | tup e => exact .inr ⟨_, .base (.tup e), kit_ty (by decide +kernel)⟩
  | lst e => exact .inr ⟨_, .base (.lst e), kit_ty (by decide +kernel)⟩
def isP (s : PSt) (z : Str) : Bool := (getS s.hs z).isSome
def isZ (s : PSt) (z : Str) : Bool := (getS s.zs z).isSome
/-- an error of the class at C with the field f = v is let out -/
def Out1 (E : XK) (C : Addr) (f : Str) (v : V) (H : Hp) : Prop := ∀ d H', Same H H' → H d = none → H' d = some (.xd [(f, v)]) → E (.ref C) (some d) H'
def spNeedPE (C CE : Addr) : Sp := fun vs H Q E => ∃ (x : Addr) (s : PSt) (v : V), vs = [.ref x, v] ∧ NetAt C x H s ∧
  ((∃ p h, v = .str p ∧ getS s.hs p = some h ∧ Q .non H) ∨ (OddV (isP s) H v ∧ Out1 E CE "name" v H))
def spHomeOfE (C CE : Addr) : Sp := fun vs H Q E => ∃ (x : Addr) (s : PSt) (v : V), vs = [.ref x, v] ∧ NetAt C x H s ∧
  ((∃ p h, v = .str p ∧ getS s.hs p = some h ∧ Q (.str h) H) ∨ (OddV (isP s) H v ∧ Out1 E CE "name" v H))
def spNeedZE (C CE : Addr) : Sp := fun vs H Q E => ∃ (x : Addr) (s : PSt) (v : V), vs = [.ref x, v] ∧ NetAt C x H s ∧
  ((∃ z o, v = .str z ∧ getS s.zs z = some o ∧ Q .non H) ∨ (OddV (isZ s) H v ∧ Out1 E CE "name" v H))
def spOffOfE (C CE : Addr) : Sp := fun vs H Q E => ∃ (x : Addr) (s : PSt) (v : V), vs = [.ref x, v] ∧ NetAt C x H s ∧
  ((∃ z o, v = .str z ∧ getS s.zs z = some o ∧ Q (.int o) H) ∨ (OddV (isZ s) H v ∧ Out1 E CE "name" v H))
section
variable {P : Program} {w : World} {K : PySem.W.Frag} {mg : Str → Option Value} {base : Heap} {f : Addr} {fd : FuncData}
theorem scNoProgram : FnScope ["self", "name"] ["self", "name"] (defScope (inClass (top i_NoProgram) j_NoProgram___init__)) := ⟨rfl, rfl, rfl, by decide +kernel, rfl, by decide +kernel, by decide +kernel⟩
theorem ok_NoProgram {C : Addr} (F : FunD K "__init__" "NoProgram.__init__" (defArgs (inClass (top i_NoProgram) j_NoProgram___init__)) (defBody (inClass (top i_NoProgram) j_NoProgram___init__)) (defScope (inClass (top i_NoProgram) j_NoProgram___init__)) [] [] f fd) (T : OexC K C) (n : PySem.W.findIn K (.ref C) "name" = some none) :
    FnOk P w K mg base CX0 1 f fd ["self", "name"] (spIni C "name" K) ∧ Binds K fd ["self", "name"] [] := by
  refine ⟨F.ok scNoProgram (fun vs H Q E h => ?_) (fun cdv A outer s H vs Q E hr h => ?_), F.bindsN fun _ _ _ _ _ _ us hl => match us, hl with | [_, _], _ => rfl⟩
  · obtain ⟨a, v, rfl, _⟩ := h
    rfl
  · obtain ⟨a, v, rfl, ha, k⟩ := h
    exact ⟨_, PSs.nox (pss_one (ps_ost (pv 0) (pv 1))), _, rfl, _, rfl, a, C, rfl, T, n, .inl ⟨ha, fun dx nd ne => k dx nd ne⟩⟩
theorem scNoZone : FnScope ["self", "name"] ["self", "name"] (defScope (inClass (top i_NoZone) j_NoZone___init__)) := ⟨rfl, rfl, rfl, by decide +kernel, rfl, by decide +kernel, by decide +kernel⟩
theorem ok_NoZone {C : Addr} (F : FunD K "__init__" "NoZone.__init__" (defArgs (inClass (top i_NoZone) j_NoZone___init__)) (defBody (inClass (top i_NoZone) j_NoZone___init__)) (defScope (inClass (top i_NoZone) j_NoZone___init__)) [] [] f fd) (T : OexC K C) (n : PySem.W.findIn K (.ref C) "name" = some none) :
    FnOk P w K mg base CX0 1 f fd ["self", "name"] (spIni C "name" K) ∧ Binds K fd ["self", "name"] [] := by
  refine ⟨F.ok scNoZone (fun vs H Q E h => ?_) (fun cdv A outer s H vs Q E hr h => ?_), F.bindsN fun _ _ _ _ _ _ us hl => match us, hl with | [_, _], _ => rfl⟩
  · obtain ⟨a, v, rfl, _⟩ := h
    rfl
  · obtain ⟨a, v, rfl, ha, k⟩ := h
    exact ⟨_, PSs.nox (pss_one (ps_ost (pv 0) (pv 1))), _, rfl, _, rfl, a, C, rfl, T, n, .inl ⟨ha, fun dx nd ne => k dx nd ne⟩⟩
theorem scNeedP2 : FnScope ["self", "p"] ["self", "p"] (defScope (inClass (top i_Net) j_Net__need_program)) := ⟨rfl, rfl, rfl, by decide +kernel, rfl, by decide +kernel, by decide +kernel⟩
theorem okE_needP {CP : Addr} (F : FunD K "_need_program" "Net._need_program" (defArgs (inClass (top i_Net) j_Net__need_program)) (defBody (inClass (top i_Net) j_Net__need_program)) (defScope (inClass (top i_Net) j_Net__need_program)) [] [] f fd) (T : Tx K mg) (Nt : Tn K mg) (B : Er P w K mg base "NoProgram" "name" CP) :
    FnOk P w K mg base (L2.CX P w) 3 f fd ["self", "p"] (spNeedPE (He.ga K "Net") CP) := by
  refine F.ok scNeedP2 (fun vs H Q E h => ?_) (fun cdv A outer s H vs Q E hr h => ?_)
  · obtain ⟨x, st, v, rfl, _⟩ := h
    rfl
  · obtain ⟨x, st, v, rfl, hN, h⟩ := h
    have hu := hu_of hr
    refine ⟨_, (pss_one (ps_if (PW.pt (pw_or (pt_not (pt_val (pe_callB call_isi (by rfl) T.isinstance (by decide +kernel) (pa_cons (pv 1) (pa_cons (pe_bltn (v := .ty "str") (by rfl) T.str (by decide +kernel) rfl) pa_nil))))) (pw_or1 (pt_cmp (pc_dnotin hu (pv 1) (pe_fld (pv 0) rfl)))))) (pss_one (ps_errE rfl B (hr.mono (by decide)) (takes_of rfl rfl rfl rfl) (pv 1))) pss_nil)), ?_⟩
    obtain ⟨dx, a1, a2, a3, t1, t2, t3, a4, vo, q0, q1, q2, q3, q4, q5, q6, q7, q8⟩ := hN.at_
    rcases h with ⟨p, hm, rfl, hp, k⟩ | ⟨odd, kE⟩
    · have dg := DGet.k (k := Sum.inr p) q2
      rw [show valV (homD st.hs) (Sum.inr p) = some (.str hm) from kd_val.trans (by rw [hp]; rfl)] at dg
      refine ⟨_, rfl, .str p, .ty "str", .type "str", .type "str", true, rfl, .ty _, .base (.str _), kit_ty (by decide +kernel), true, rfl, ifN rfl ?_⟩
      exact ⟨_, rfl, _, rfl, x, _, dx, _, _, rfl, q0, Nt.cl, Nt.n2, nf_hom, a2, _, rfl, dg, _, rfl, ifN rfl k⟩
    · rcases odd.isStr (K := K) with ⟨z, rfl, hz⟩ | ⟨t, ht, hk⟩
      · have hz' : getS st.hs z = none := by
          unfold isP at hz
          cases e : getS st.hs z with
          | none => rfl
          | some _ => rw [e] at hz; cases hz
        have dg := DGet.k (k := Sum.inr z) q2
        rw [show valV (homD st.hs) (Sum.inr z) = none from kd_val.trans (by rw [hz']; rfl)] at dg
        refine ⟨_, rfl, .str z, .ty "str", .type "str", .type "str", true, rfl, .ty _, .base (.str _), kit_ty (by decide +kernel), true, rfl, ifN rfl ?_⟩
        exact ⟨_, rfl, _, rfl, x, _, dx, _, _, rfl, q0, Nt.cl, Nt.n2, nf_hom, a2, _, rfl, dg, _, rfl, ifB rfl ⟨_, rfl, errRaw kE⟩⟩
      · exact ⟨_, rfl, v, .ty "str", t, .type "str", false, rfl, .ty _, ht, hk, false, rfl, ifB rfl (ifB rfl ⟨_, rfl, errRaw kE⟩)⟩
structure DHomeE (P : Program) (w : World) (K : PySem.W.Frag) (mg : Str → Option Value) (base : Heap) (CP : Addr) : Prop where
  need_program : Md P w K mg base (He.ga K "Net") (L2.CX P w) 3 "_need_program" ["self", "p"] (spNeedPE (He.ga K "Net") CP)
theorem scHomeOf2 : FnScope ["self", "p"] ["self", "p"] (defScope (inClass (top i_Net) j_Net_home_of)) := ⟨rfl, rfl, rfl, by decide +kernel, rfl, by decide +kernel, by decide +kernel⟩
theorem okE_homeOf {CP : Addr} (F : FunD K "home_of" "Net.home_of" (defArgs (inClass (top i_Net) j_Net_home_of)) (defBody (inClass (top i_Net) j_Net_home_of)) (defScope (inClass (top i_Net) j_Net_home_of)) [] [] f fd) (Nt : Tn K mg) (M : DHomeE P w K mg base CP) :
    FnOk P w K mg base (L2.CX P w) 4 f fd ["self", "p"] (spHomeOfE (He.ga K "Net") CP) := by
  refine F.ok scHomeOf2 (fun vs H Q E h => ?_) (fun cdv A outer s H vs Q E hr h => ?_)
  · obtain ⟨x, st, v, rfl, _⟩ := h
    rfl
  · obtain ⟨x, st, v, rfl, hN, h⟩ := h
    have hu := hu_of hr
    refine ⟨_, (pss_cons (ps_expr (pe_md M.need_program (pv 0) Nt.cl (hr.mono (by decide)) (passes_call (takes_of rfl rfl rfl rfl) (fun _ _ _ _ h => h)) (pa_cons (pv 1) pa_nil)))
        (pss_one (ps_ret (pe_dget hu (pe_fld (pv 0) rfl) (pv 1) (fun _ _ => rfl))))), ?_⟩
    obtain ⟨dx, a1, a2, a3, t1, t2, t3, a4, vo, q0, q1, q2, q3, q4, q5, q6, q7, q8⟩ := hN.at_
    refine ⟨_, rfl, x, dx, _, rfl, q0, nf_none (by decide +kernel), _, rfl, x, st, v, rfl, hN, ?_⟩
    rcases h with ⟨p, hm, rfl, hp, k⟩ | ⟨odd, kE⟩
    · refine .inl ⟨p, hm, rfl, hp, ?_⟩
      have dg := DGet.k (k := Sum.inr p) q2
      rw [show valV (homD st.hs) (Sum.inr p) = some (.str hm) from kd_val.trans (by rw [hp]; rfl)] at dg
      exact ⟨_, rfl, x, _, dx, _, _, rfl, q0, Nt.cl, Nt.n2, nf_hom, _, rfl, a2, _, rfl, dg, k⟩
    · exact .inr ⟨odd, kE⟩
theorem scNeedZ2 : FnScope ["self", "zone"] ["self", "zone"] (defScope (inClass (top i_Net) j_Net__need_zone)) := ⟨rfl, rfl, rfl, by decide +kernel, rfl, by decide +kernel, by decide +kernel⟩
theorem okE_needZ {CZ : Addr} (F : FunD K "_need_zone" "Net._need_zone" (defArgs (inClass (top i_Net) j_Net__need_zone)) (defBody (inClass (top i_Net) j_Net__need_zone)) (defScope (inClass (top i_Net) j_Net__need_zone)) [] [] f fd) (T : Tx K mg) (Nt : Tn K mg) (B : Er P w K mg base "NoZone" "name" CZ) :
    FnOk P w K mg base (L2.CX P w) 3 f fd ["self", "zone"] (spNeedZE (He.ga K "Net") CZ) := by
  refine F.ok scNeedZ2 (fun vs H Q E h => ?_) (fun cdv A outer s H vs Q E hr h => ?_)
  · obtain ⟨x, st, v, rfl, _⟩ := h
    rfl
  · obtain ⟨x, st, v, rfl, hN, h⟩ := h
    have hu := hu_of hr
    refine ⟨_, (pss_one (ps_if (PW.pt (pw_or (pt_not (pt_val (pe_callB call_isi (by rfl) T.isinstance (by decide +kernel) (pa_cons (pv 1) (pa_cons (pe_bltn (v := .ty "str") (by rfl) T.str (by decide +kernel) rfl) pa_nil))))) (pw_or1 (pt_cmp (pc_dnotin hu (pv 1) (pe_fld (pv 0) rfl)))))) (pss_one (ps_errE rfl B (hr.mono (by decide)) (takes_of rfl rfl rfl rfl) (pv 1))) pss_nil)), ?_⟩
    obtain ⟨dx, a1, a2, a3, t1, t2, t3, a4, vo, q0, q1, q2, q3, q4, q5, q6, q7, q8⟩ := hN.at_
    rcases h with ⟨z, o, rfl, hz, k⟩ | ⟨odd, kE⟩
    · have dg := DGet.k (k := Sum.inr z) q1
      rw [show valV (offD st.zs) (Sum.inr z) = some (.int o) from kd_val.trans (by rw [hz]; rfl)] at dg
      refine ⟨_, rfl, .str z, .ty "str", .type "str", .type "str", true, rfl, .ty _, .base (.str _), kit_ty (by decide +kernel), true, rfl, ifN rfl ?_⟩
      exact ⟨_, rfl, _, rfl, x, _, dx, _, _, rfl, q0, Nt.cl, Nt.n1, nf_off, a1, _, rfl, dg, _, rfl, ifN rfl k⟩
    · rcases odd.isStr (K := K) with ⟨z, rfl, hz⟩ | ⟨t, ht, hk⟩
      · have hz' : getS st.zs z = none := by
          unfold isZ at hz
          cases e : getS st.zs z with
          | none => rfl
          | some _ => rw [e] at hz; cases hz
        have dg := DGet.k (k := Sum.inr z) q1
        rw [show valV (offD st.zs) (Sum.inr z) = none from kd_val.trans (by rw [hz']; rfl)] at dg
        refine ⟨_, rfl, .str z, .ty "str", .type "str", .type "str", true, rfl, .ty _, .base (.str _), kit_ty (by decide +kernel), true, rfl, ifN rfl ?_⟩
        exact ⟨_, rfl, _, rfl, x, _, dx, _, _, rfl, q0, Nt.cl, Nt.n1, nf_off, a1, _, rfl, dg, _, rfl, ifB rfl ⟨_, rfl, errRaw kE⟩⟩
      · exact ⟨_, rfl, v, .ty "str", t, .type "str", false, rfl, .ty _, ht, hk, false, rfl, ifB rfl (ifB rfl ⟨_, rfl, errRaw kE⟩)⟩
structure DOffE (P : Program) (w : World) (K : PySem.W.Frag) (mg : Str → Option Value) (base : Heap) (CZ : Addr) : Prop where
  need_zone : Md P w K mg base (He.ga K "Net") (L2.CX P w) 3 "_need_zone" ["self", "zone"] (spNeedZE (He.ga K "Net") CZ)
theorem scOffOf2 : FnScope ["self", "zone"] ["self", "zone"] (defScope (inClass (top i_Net) j_Net_offset_of)) := ⟨rfl, rfl, rfl, by decide +kernel, rfl, by decide +kernel, by decide +kernel⟩
theorem okE_offOf {CZ : Addr} (F : FunD K "offset_of" "Net.offset_of" (defArgs (inClass (top i_Net) j_Net_offset_of)) (defBody (inClass (top i_Net) j_Net_offset_of)) (defScope (inClass (top i_Net) j_Net_offset_of)) [] [] f fd) (Nt : Tn K mg) (M : DOffE P w K mg base CZ) :
    FnOk P w K mg base (L2.CX P w) 4 f fd ["self", "zone"] (spOffOfE (He.ga K "Net") CZ) := by
  refine F.ok scOffOf2 (fun vs H Q E h => ?_) (fun cdv A outer s H vs Q E hr h => ?_)
  · obtain ⟨x, st, v, rfl, _⟩ := h
    rfl
  · obtain ⟨x, st, v, rfl, hN, h⟩ := h
    have hu := hu_of hr
    refine ⟨_, (pss_cons (ps_expr (pe_md M.need_zone (pv 0) Nt.cl (hr.mono (by decide)) (passes_call (takes_of rfl rfl rfl rfl) (fun _ _ _ _ h => h)) (pa_cons (pv 1) pa_nil)))
        (pss_one (ps_ret (pe_dget hu (pe_fld (pv 0) rfl) (pv 1) (fun _ _ => rfl))))), ?_⟩
    obtain ⟨dx, a1, a2, a3, t1, t2, t3, a4, vo, q0, q1, q2, q3, q4, q5, q6, q7, q8⟩ := hN.at_
    refine ⟨_, rfl, x, dx, _, rfl, q0, nf_none (by decide +kernel), _, rfl, x, st, v, rfl, hN, ?_⟩
    rcases h with ⟨z, o, rfl, hz, k⟩ | ⟨odd, kE⟩
    · refine .inl ⟨z, o, rfl, hz, ?_⟩
      have dg := DGet.k (k := Sum.inr z) q1
      rw [show valV (offD st.zs) (Sum.inr z) = some (.int o) from kd_val.trans (by rw [hz]; rfl)] at dg
      exact ⟨_, rfl, x, _, dx, _, _, rfl, q0, Nt.cl, Nt.n1, nf_off, _, rfl, a1, _, rfl, dg, k⟩
    · exact .inr ⟨odd, kE⟩
end
end Wd
end
section
set_option Elab.async false
set_option linter.all false
set_option maxRecDepth 100000
set_option maxHeartbeats 2000000
set_option pp.maxSteps 600
namespace Wd
open PySem PySem.Spec PyProof.Rows L2 Wt TL NumText
inductive Flt
  | prog (v : V)
  | zone (z : Str)
def RaiseF (E : XK) (CP CZ : Addr) (H : Hp) : Flt → Prop
  | .prog v => Out1 E CP "name" v H
  | .zone z => Out1 E CZ "name" (.str z) H
theorem RaiseF.same {E : XK} {CP CZ : Addr} {H H' : Hp} {f : Flt} (h : RaiseF E CP CZ H f) (s : Same H H') : RaiseF E CP CZ H' f := by
  cases f with
  | prog v => exact fun d H2 s2 hd e => h d H2 (s.trans s2) (Same.free s hd) e
  | zone z => exact fun d H2 s2 hd e => h d H2 (s.trans s2) (Same.free s hd) e
/-- what is wrong of a program and an entry -/
inductive FaultK (s : PSt) (H : Hp) (v : V) (k : Str) (o : Option Str) : Flt → Prop
  | prog (h : OddV (isP s) H v) : FaultK s H v k o (.prog v)
  | zone (p h : Str) (z : Str) (e : v = .str p) (hp : getS s.hs p = some h) (hk : k = "zoned") (ho : o = some z) (hz : isZ s z = false) : FaultK s H v k o (.zone z)
def spKnownE (C CE CP CZ : Addr) : Sp := fun vs H Q E => ∃ (x y : Addr) (s : PSt) (v : V) (z k : Str) (a b : Int) (o : Option Str) (f : Flt), vs = [.ref x, v, .ref y] ∧ NetAt C x H s ∧ EntA CE y z k a b o H ∧ FaultK s H v k o f ∧ RaiseF E CP CZ H f
section
variable {P : Program} {w : World} {K : PySem.W.Frag} {mg : Str → Option Value} {base : Heap} {f : Addr} {fd : FuncData}
structure MNE (P : Program) (w : World) (K : PySem.W.Frag) (mg : Str → Option Value) (base : Heap) (CP CZ : Addr) : Prop where
  offset_of : Md P w K mg base (He.ga K "Net") (L2.CX P w) 4 "offset_of" ["self", "zone"] (spOffOfE (He.ga K "Net") CZ)
  home_of : Md P w K mg base (He.ga K "Net") (L2.CX P w) 4 "home_of" ["self", "p"] (spHomeOfE (He.ga K "Net") CP)
theorem scNeedKnown2 : FnScope ["net", "p", "entry"] ["net", "p", "entry"] (defScope (top i_need_known)) := ⟨rfl, rfl, rfl, by decide +kernel, rfl, by decide +kernel, by decide +kernel⟩
theorem okE_known {CP CZ : Addr} (F : FnG K "need_known" i_need_known f fd) (T : Tx K mg) (Nt : Tn K mg) (M : MNE P w K mg base CP CZ) : FnOk P w K mg base (L2.CX P w) 5 f fd ["net", "p", "entry"] (spKnownE (He.ga K "Net") (He.ga K "Entry") CP CZ) := by
  refine F.ok scNeedKnown2 (fun vs H Q E h => ?_) (fun cdv A outer s H vs Q E hr h => ?_)
  · obtain ⟨x, y, st, v, z, kd, a, b, o, ft, rfl, _⟩ := h
    rfl
  · obtain ⟨x, y, st, v, z, kd, a, b, o, ft, rfl, hN, hE, hf, kE⟩ := h
    refine ⟨_, (pss_cons (ps_expr (pe_md M.home_of (pv 0) Nt.cl (hr.mono (by decide)) (passes_call (takes_of rfl rfl rfl rfl) (fun _ _ _ _ h => h)) (pa_cons (pv 1) pa_nil)))
        (pss_one (ps_if (pt_cmpR op_eq (pe_fld (pv 2) rfl) pe_str (nomark _)) (pss_one (ps_expr (pe_md M.offset_of (pv 0) Nt.cl (hr.mono (by decide)) (passes_call (takes_of rfl rfl rfl rfl) (fun _ _ _ _ h => h)) (pa_cons (pe_fld (pv 2) rfl) pa_nil)))) pss_nil))), ?_⟩
    obtain ⟨dx, a1, a2, a3, t1, t2, t3, a4, vo, q0, _⟩ := hN.at_
    obtain ⟨dy, e0⟩ := hE
    refine ⟨_, rfl, x, dx, _, rfl, q0, nf_none (by decide +kernel), _, rfl, x, st, v, rfl, hN, ?_⟩
    cases hf with
    | prog odd => exact .inr ⟨odd, kE⟩
    | zone p h z' e hp hk ho hz =>
      subst e
      refine .inl ⟨p, h, rfl, hp, ?_⟩
      refine ⟨_, rfl, y, _, dy, _, _, rfl, e0, T.cl, T.n2, lk_kind, rfl, _, rfl, ifT (congrArg V.str hk) ?_⟩
      subst ho
      exact ⟨_, rfl, x, dx, _, rfl, q0, nf_none (by decide +kernel), _, rfl, y, _, dy, _, _, rfl, e0, T.cl, T.n5, lk_zone, x, st, .str z', rfl, hN, .inr ⟨.str z' hz, kE⟩⟩
end
end Wd
end
section
set_option Elab.async false
set_option linter.all false
set_option maxRecDepth 100000
set_option maxHeartbeats 2000000
set_option pp.maxSteps 900
/-! ### _law_met -/
namespace Wd
open PySem PySem.Spec PyProof.Rows L2 Wt TL NumText LamX
/-- isinstance(e, c) of a caught error with a dict -/
def rIsC (K : PySem.W.Frag) (a : Addr) (cls : Value) (d : Option Addr) : List V → Hp → VK → Prop := fun xs H Q =>
  ∃ (C dd : Addr) (fs : List (Str × V)) (c : V) (u : Value) (b : Bool), xs = [.ref a, c] ∧ cls = .ref C ∧ d = some dd ∧ ErrC K C ∧ H dd = some (.xd fs) ∧ ClsV c u ∧ PySem.W.kitOne K (.ref C) u = some b ∧ Q (.bl b) H
theorem call_isC {X : Cx} {a : Addr} {cls : Value} {d : Option Addr} {oe : Obj} {pn : List (Addr × Obj)} (hz : Zc cls d oe) (hf : ∃ vs, oe.data = .fields vs) : CallR (X.suite a ((a, oe) :: pn)) (.builtin "isinstance") (rIsC X.K a cls d) := by
  intro pins s σ H xs us Q I r h
  obtain ⟨C, dd, fs, c, u, b, rfl, rfl, rfl, T, hd, k, e, q⟩ := h
  obtain ⟨u1, u2, rfl, r1, r2⟩ := vals2 r
  obtain rfl : u1 = Value.ref a := r1
  obtain rfl := k.eq r2
  obtain ⟨ha, _⟩ := I.pin (a, oe) (List.mem_append_left _ List.mem_cons_self)
  obtain ⟨vs, hv⟩ := hf
  obtain ⟨mA, hns, hr⟩ := (show ObjOk X.prog X.w H s.heap dd (.xd fs) from I.hok dd _ hd)
  obtain ⟨od, ho, hl⟩ := lookIn_ns hns
  have J : PySem.W.InstAt s.heap a oe C (some od) := ⟨ha, hz.1, by unfold PySem.W.notCls; rw [hv] <;> rfl, by rw [hz.2]; exact ho⟩
  exact PySem.W.kia_one (PySem.W.kitx_exc T.isC T.ga T.gg T.be T.cc T.cg T.ct T.ob) I.kIn J e (fun z => nomatch z)
    fun tk => ⟨.bl b, H, I.tok tk, rfl, q⟩
/-- what _law_met answers for what is wrong -/
def fltV : Flt → List V
  | .prog v => [.str "program", v, .bl true]
  | .zone z => [.str "zone", .str z, .bl true]
/-- what _law_met makes of a lambda that raises -/
def TM (CP CZ : Addr) : (XK → Hp → VK → Prop) → Hp → VK → Prop := fun tl H Q =>
  ∀ E : XK, (∀ H1 f, (∀ p H', Same H1 H' → H1 p = none → H' p = some (.tup (fltV f)) → Q (.ref p) H') → RaiseF E CP CZ H1 f) → tl E H Q
/-- the clauses' facts -/
structure Tm (K : PySem.W.Frag) (mg : Str → Option Value) (CP CZ : Addr) : Prop where
  zp : PySem.W.exmOne K (.ref CZ) (.ref CP) = some false
  kp : PySem.W.kitOne K (.ref CP) (.ref (He.ga K "WhosedayError")) = some true
  kz : PySem.W.kitOne K (.ref CZ) (.ref (He.ga K "WhosedayError")) = some true
  we : mg "WhosedayError" = some (.ref (He.ga K "WhosedayError"))
theorem scMet : FnScope ["_law_call", "e"] ["_law_call"] (defScope (top i__law_met)) := ⟨rfl, rfl, rfl, by decide +kernel, rfl, by decide +kernel, by decide +kernel⟩
/-- _law_met(y) in a comprehension, y a kept lambda -/
theorem pe_metK {X : Cx} {K : PySem.W.Frag} {pins : List (Addr × Obj)} {σ0 : L2.St} {H0 : Hp} {s0 : Shared} {fp : List Addr} {scope : Scope} {ce : Env} {g : Addr} {k i : Nat} {y : Str} {fdg : FuncData} {CP CZ : Addr} {p py pos : Pos} (B : BlkAt X pins σ0 H0 s0 fp) (hK : X.K = K)
    (F : FnG K "_law_met" i__law_met g fdg) (hg : Gl (X.blk s0 H0 scope ce fp) "_law_met") (hm : X.mg "_law_met" = some (.ref g)) (BP : Er X.prog X.w K X.mg X.base "NoProgram" "name" CP) (BZ : Er X.prog X.w K X.mg X.base "NoZone" "name" CZ) (M : Tm K X.mg CP CZ) (hi : X.mg "isinstance" = none)
    (hr : Room (k + 2) X.A) (hN : X.N[i]? = some y) (hv : Vis ce.scope y) (hyd : (y == ("__debug__" : Str)) = false := by decide) (hyc : (y == ("__classdict__" : Str)) = false := by decide) :
    PE (X.blk s0 H0 scope ce fp) (.Call (.Name "_law_met" p) [.Name y py] [] pos) (tKept X k i (TM CP CZ) σ0) := by
  subst hK
  have XP : XfC X.K CP := ⟨BP.err.ga, BP.err.gg, BP.err.be, BP.err.hd⟩
  have XZ : XfC X.K CZ := ⟨BZ.err.ga, BZ.err.gg, BZ.err.be, BZ.err.hd⟩
  have isC : bootBuiltins ("isinstance" : Str) = some (.builtin "isinstance") := by decide +kernel
  have key : ∃ l, (∀ cdv, GivesTo X ["_law_call", "e"] "_law_met" (defScope (top i__law_met)) g cdv (defBody (top i__law_met)) "_law_call" (X.env.qual ++ "<lambda>") (TMet X.K 1 2 l)) ∧ ∀ tl H Q, TM CP CZ tl H Q → TMet X.K 1 2 l tl H Q := by
    refine ⟨[(.ref CP, _), (.ref CZ, _)], fun cdv => met_gives rfl scMet.nd rfl rfl (fun f => rfl) fun s H => .cons ⟨rfl, by decide, .inl BP.glo⟩
        (fun a oe cls d pn hz hf => pss_one (ps_ret (pe_tup (pa_cons pe_str (pa_cons (pe_xf XP BP.nof hz hf (pv 1)) (pa_cons (pe_callB (r := rIsC X.K a cls d) (call_isC hz hf) rfl hi isC (pa_cons (pv 1) (pa_cons (pe_glob (v := .ref (He.ga X.K "WhosedayError")) rfl M.we rfl) pa_nil))) pa_nil))))))
        (.cons ⟨rfl, by decide, .inl BZ.glo⟩
        (fun a oe cls d pn hz hf => pss_one (ps_ret (pe_tup (pa_cons pe_str (pa_cons (pe_xf XZ BZ.nof hz hf (pv 1)) (pa_cons (pe_callB (r := rIsC X.K a cls d) (call_isC hz hf) rfl hi isC (pa_cons (pv 1) (pa_cons (pe_glob (v := .ref (He.ga X.K "WhosedayError")) rfl M.we rfl) pa_nil))) pa_nil))))))
        .nil), fun tl H Q h => h _ fun H1 f ans => ?_⟩
    have two : ∀ σ : L2.St, σ.length = 2 → ∃ x0 x1, σ = [x0, x1] := fun σ hl => match σ, hl with
      | [x0, x1], _ => ⟨x0, x1, rfl⟩
    cases f with
    | prog v =>
      intro d H' s' hd hq σ hl
      obtain ⟨x0, x1, rfl⟩ := two σ hl
      refine ⟨true, BP.exm, fun _ a ha => ?_, fun z => nomatch z⟩
      refine ⟨_, rfl, rfl, rfl, d, _, v, rfl, hq, (by rw [List.lookup_cons, beq_self_eq_true]), _, rfl, CP, d, _, _, _, true, rfl, rfl, rfl, BP.err, hq, .own _, M.kp, (by show 3 ≤ sizeLine; decide), fun p hp => ?_⟩
      exact ans p _ (s'.trans (same_upd hp)) (Same.free s' hp) upd_same
    | zone z =>
      intro d H' s' hd hq σ hl
      obtain ⟨x0, x1, rfl⟩ := two σ hl
      refine ⟨false, M.zp, (fun z => nomatch z), fun _ => ⟨true, BZ.exm, fun _ a ha => ?_, fun z => nomatch z⟩⟩
      refine ⟨_, rfl, rfl, rfl, d, _, .str z, rfl, hq, (by rw [List.lookup_cons, beq_self_eq_true]), _, rfl, CZ, d, _, _, _, true, rfl, rfl, rfl, BZ.err, hq, .own _, M.kz, (by show 3 ≤ sizeLine; decide), fun p hp => ?_⟩
      exact ans p _ (s'.trans (same_upd hp)) (Same.free s' hp) upd_same
  obtain ⟨l, hG, imp⟩ := key
  have pe := pe_keptcall (TT := TMet X.K 1 2 l) (i := i) (k := k) (ce := ce) (scope := scope) (p := p) (py := py) (pos := pos) B rfl F hg hm (fun _ _ _ _ _ _ us hl => match us, hl with | [_], _ => rfl) scMet rfl (.inl rfl) hG hr hN hv (hyd := hyd) (hyc := hyc)
  exact ⟨fun pins s σ H Q I ⟨f, t, h1, h2, h3⟩ => pe.run pins s σ H Q I ⟨f, t, h1, h2, fun o ho => imp _ _ _ (h3 o ho)⟩⟩
end Wd
end
section
set_option Elab.async false
set_option linter.all false
set_option maxRecDepth 100000
set_option maxHeartbeats 1000000
namespace Wd
open PySem PySem.Spec PyProof.Rows L2 Wt TL NumText
def spMinute : Sp := fun vs H Q _ => ∃ (d l : Addr) (a st : Int), vs = [.ref d, .int st] ∧ Pen H d l a ∧ a ≤ 80000 ∧ 0 < st ∧ st ≤ 720 ∧ ∀ r : Int, -1000000000000000000000000 ≤ r → r ≤ 1000000000000000000000000 → Drawn d l a 20 H fun _ H' => Q (.int r) H'
section
variable {P : Program} {w : World} {K : PySem.W.Frag} {mg : Str → Option Value} {base : Heap} {f : Addr} {fd : FuncData}
structure DMinute (P : Program) (w : World) (K : PySem.W.Frag) (mg : Str → Option Value) (base : Heap) : Prop extends DDraw P w K mg base where
  law_big : Df P w K mg base CX0 2 "_law_big" ["_law_pen_here", "_law_many"] spBig
theorem scMinute : FnScope ["_law_pen_here", "_law_step", "_law_far", "_law_spot"] ["_law_pen_here", "_law_step"] (defScope (top i__law_minute)) := ⟨rfl, rfl, rfl, by decide +kernel, rfl, by decide +kernel, by decide +kernel⟩
theorem ok_minute (F : FnG K "_law_minute" i__law_minute f fd) (T : Tx K mg) (D : DMinute P w K mg base) : FnOk P w K mg base CX0 3 f fd ["_law_pen_here", "_law_step"] spMinute := by
  refine F.ok scMinute (fun vs H Q E h => ?_) (fun cdv A outer s H vs Q E hr h => ?_)
  · obtain ⟨d, l, a, st, rfl, _⟩ := h
    rfl
  · obtain ⟨d, l, a, st, rfl, hp, ha, h0, h1, k⟩ := h
    refine ⟨_, PSs.nox (pss_cons (ps_set (i := 2) scMinute.nd rfl (Or.inl rfl) (pe_cd D.law_pick (hr.mono (by decide)) pass0 (pa_cons (pv 0) (pa_cons (pe_lst (pa_cons pe_int (pa_cons pe_int (pa_cons pe_int (pa_cons pe_int (pa_cons (pe_op op_pow pe_int pe_int) pa_nil)))))) pa_nil))))
        (pss_cons (ps_set (i := 3) scMinute.nd rfl (Or.inl rfl) (pe_cd D.law_pick (hr.mono (by decide)) pass0 (pa_cons (pv 0) (pa_cons (pe_lst (pa_cons pe_int (pa_cons pe_int (pa_cons (pv 1) (pa_cons (pv 1) pa_nil))))) pa_nil))))
        (pss_cons (ps_if (pt_cmpR op_eq (pv 3) (pv 1) (nomark _)) (pss_one (ps_set (i := 3) scMinute.nd rfl (Or.inl rfl) (pe_op op_mul (pv 1) (pe_cd D.law_draw (hr.mono (by decide)) pass0 (pa_cons (pv 0) (pa_cons (pe_op op_fdiv pe_int (pv 1)) pa_nil)))))) pss_nil)
        (pss_one (ps_ret (pe_op op_add (pe_op op_mul pe_int (pe_op op_sub (pe_cd D.law_big (hr.mono (by decide)) pass0 (pa_cons (pv 0) (pa_cons (pe_op op_add (pe_op op_mul pe_int (pv 2)) pe_int) pa_nil))) (pv 2))) (pv 3))))))), ?_⟩
    have q1 : 1 ≤ (1440 : Int) / st := ge1 h0 (by omega)
    have q2 : (1440 : Int) / st ≤ 1440 := div_le1 (by decide) h0
    refine ⟨_, rfl, 10, 20, rfl, rfl, ⟨by decide, by decide, by decide⟩, (by show 5 ≤ sizeLine; decide), fun t ht => ?_⟩
    have s1 := same_upd (o := .lst [.int 3, .int 3, .int 40, .int 400, .int (10 ^ (20 : Int).toNat)]) ht
    have tq : (upd H t (.lst [.int 3, .int 3, .int 40, .int 400, .int (10 ^ (20 : Int).toNat)])) t = some (.lst [.int 3, .int 3, .int 40, .int 400, .int 100000000000000000000]) := upd_same
    have p1 := hp.same s1
    have b1 : But d H _ := But.same s1
    generalize upd H t (.lst [.int 3, .int 3, .int 40, .int 400, .int (10 ^ (20 : Int).toNat)]) = H1 at s1 tq p1 b1 ⊢
    refine ⟨d, l, a, _, rfl, p1, by omega, .inl ⟨t, _, rfl, p1.dne tq, tq, List.cons_ne_nil _ _, by decide, fun x a2 H2 hx g1 g2 p2 b2 => ?_⟩⟩
    obtain ⟨far, rfl, f1, f2⟩ : ∃ far : Int, x = .int far ∧ 3 ≤ far ∧ far ≤ 100000000000000000000 := by
      simp only [List.mem_cons, List.not_mem_nil, or_false] at hx
      rcases hx with rfl | rfl | rfl | rfl | rfl <;> exact ⟨_, rfl, by decide, by decide⟩
    have b12 := b1.trans b2
    refine ⟨_, rfl, _, rfl, _, rfl, (by show 4 ≤ sizeLine; decide), fun u hu => ?_⟩
    have s3 := same_upd (o := .lst [.int 0, .int 1439, .int st, .int st]) hu
    have uq : (upd H2 u (.lst [.int 0, .int 1439, .int st, .int st])) u = some (.lst [.int 0, .int 1439, .int st, .int st]) := upd_same
    have p3 := p2.same s3
    have b3 := b12.trans (But.same s3)
    generalize upd H2 u (.lst [.int 0, .int 1439, .int st, .int st]) = H3 at s3 uq p3 b3 ⊢
    refine ⟨d, l, a2, _, rfl, p3, by omega, .inl ⟨u, _, rfl, p3.dne uq, uq, List.cons_ne_nil _ _, (by show 4 ≤ 1000; decide), fun x a4 H4 hx g3 g4 p4 b4 => ?_⟩⟩
    obtain ⟨sp, rfl, e1, e2⟩ : ∃ sp : Int, x = .int sp ∧ 0 ≤ sp ∧ sp ≤ 1440 := by
      simp only [List.mem_cons, List.not_mem_nil, or_false] at hx
      rcases hx with rfl | rfl | rfl | rfl
      · exact ⟨_, rfl, by decide, by decide⟩
      · exact ⟨_, rfl, by decide, by decide⟩
      · exact ⟨_, rfl, by omega, by omega⟩
      · exact ⟨_, rfl, by omega, by omega⟩
    have b14 := b3.trans b4
    dsimp only [gName]
    refine seq_by (fun σ' H' => ∃ sp a5 : Int, σ' = [some (.ref d), some (.int st), some (.int far), some (.int sp)] ∧ 0 ≤ sp ∧ sp ≤ 1440 ∧ a ≤ a5 ∧ a5 ≤ a + 3 ∧ Pen H' d l a5 ∧ But d H H') (fun Nx hNx => ?_) ?_
    · refine ⟨_, rfl, _, rfl, rfl, _, rfl, ifC (fun _ => ?_) (fun _ => ?_)⟩
      · refine ⟨_, rfl, _, rfl, _, rfl, _, _, rfl, rfl, ⟨h0, by omega⟩, d, l, a4, _, rfl, p4, by omega, by omega, by omega, fun r a5 H5 r0 rn g5 g6 p5 b5 => ?_⟩
        have m1 : st * ((1440 : Int) / st) ≤ 1440 := Int.mul_ediv_self_le (by omega)
        have m2 : st * r ≤ st * ((1440 : Int) / st) := Int.mul_le_mul_of_nonneg_left (by omega) (by omega)
        have m0 : 0 ≤ st * r := Int.mul_nonneg (by omega) r0
        exact ⟨_, _, rfl, rfl, .inl ⟨by omega, by omega⟩, hNx _ _ ⟨_, a5, rfl, m0, by omega, by omega, by omega, p5, b14.trans b5⟩⟩
      · exact hNx _ _ ⟨sp, a4, rfl, e1, e2, by omega, by omega, p4, b14⟩
    · rintro σ' H5 ⟨sp, a5, rfl, e1, e2, g5, g6, p5, b5⟩
      refine ⟨_, rfl, _, rfl, _, _, rfl, rfl, .inl ⟨by decide, by decide⟩, _, _, rfl, rfl, d, l, a5, _, rfl, p5, by omega, by omega, small_of (by omega), fun r r0 rn a6 H6 g7 g8 p6 b6 => ?_⟩
      refine ⟨_, rfl, _, _, rfl, rfl, _, _, rfl, rfl, .inl ⟨by decide, by decide⟩, _, rfl, _, _, rfl, rfl, ?_⟩
      exact k _ (by omega) (by omega) a6 H6 (by omega) (by omega) p6 (b5.trans b6)
end
end Wd
end
section
set_option Elab.async false
set_option linter.all false
set_option maxRecDepth 100000
set_option maxHeartbeats 1000000
namespace Wd
open PySem PySem.Spec PyProof.Rows L2 Wt TL NumText
/-- at v a row of what is held, as the law reads it -/
def RowAt (H : Hp) (v : V) (r : HR) : Prop := ∃ t, v = .ref t ∧ H t = some (.tup [.str r.k, .int (valS r.k r.a), .int (valS r.k r.b), oS r.o])
theorem RowAt.same {H H' : Hp} {v : V} {r : HR} (s : Same H H') (h : RowAt H v r) : RowAt H' v r := by
  obtain ⟨t, e, q⟩ := h
  exact ⟨t, e, s _ _ q⟩
theorem RowAt.put {H : Hp} {D : Addr} {zs ys : List V} {v : V} {r : HR} (hD : H D = some (.lst zs)) (h : RowAt H v r) : RowAt (upd H D (.lst ys)) v r := by
  obtain ⟨c, e, q⟩ := h
  refine ⟨c, e, ?_⟩
  rw [upd_ne ?_]
  · exact q
  · rintro rfl
    rw [hD] at q
    cases q
/-- a field, read within a comprehension -/
theorem pe_fldK {X : Cx} {K : PySem.W.Frag} {e : Expr} {ta : TE} {f : Str} {pos : Pos} (hK : X.K = K) (he : PE X e ta) (hb : attributeBase e f X.env (eval e X.env) = eval e X.env) : PE X (.Attribute e f pos) (tFld K ta f) := by
  subst hK
  exact pe_fld he hb
/-- the first of a law's entries -/
structure E0k (s : PSt) (k : Str) (o : Option Str) (a b : Int) : Prop where
  val : Val k a b o
  oz : ∃ oz, KnownZ s k o oz
  a1 : -10000000000000000000000000 ≤ a
  b1 : b ≤ 10000000000000000000000000
section
variable {s : PSt} {k : Str} {o : Option Str} {a b : Int}
theorem E0k.ok (h : E0k s k o a b) : HOk1 s 1000000000000000000000000000000000000 ⟨k, o, minS k a, minS k b⟩ := by
  have := h.a1
  have := h.b1
  have := h.val.le
  refine ⟨h.val.kin, h.val.zo, h.val.nm, h.oz, minS_mono h.val.le, ?_, ?_⟩
  · show _ ≤ minS k a
    unfold minS
    split <;> omega
  · show minS k b ≤ _
    unfold minS
    split <;> omega
theorem E0k.sm (h : E0k s k o a b) : small a ∧ small b := by
  have := h.a1
  have := h.b1
  have := h.val.le
  exact ⟨small_of (by omega), small_of (by omega)⟩
theorem E0k.rd (h : E0k s k o a b) : RdW (some 30) (words (mkT k a b o)) k a b o := by
  have := h.a1
  have := h.b1
  have := h.val.le
  have e : (10 : Nat) ^ 30 = 1000000000000000000000000000000 := by decide +kernel
  exact mk_reads h.val.kin h.val.zo (fits_of (by rw [e]; omega)) (fits_of (by rw [e]; omega)) h.val.le h.val.nm
end
end Wd
end
section
set_option Elab.async false
set_option linter.all false
set_option maxRecDepth 100000
set_option maxHeartbeats 1000000
namespace Wd
open PySem PySem.Spec PyProof.Rows L2 Wt TL NumText
/-! ### from a drawn net to the net that is read -/
def rulesOf (r : DRow) (ks : List Str) : List ((Str × Str) × Str) := ks.flatMap fun k => if r.rule k = "keep" then [] else [((r.name, k), r.rule k)]
def homeOf (r : DRow) : Str × Str := (r.name, r.home)
def finOf (N : DNet) : PSt := ⟨N.told, N.rows.map homeOf, N.rows.flatMap (fun r => rulesOf r KS), N.routes⟩
theorem StepsL.app {ls' : List Str} {s2 : PSt} : ∀ {ls : List Str} {s s1 : PSt}, StepsL s ls s1 → StepsL s1 ls' s2 → StepsL s (ls ++ ls') s2
  | _, _, _, .nil, h => h
  | _, _, _, .cons a b, h => .cons a (b.app h)
theorem zones_step : ∀ (zs pre : List (Str × Int)), ((pre ++ zs).map Prod.fst).Nodup → (∀ z ∈ zs, nameL (tl z.1) ∧ -840 ≤ z.2 ∧ z.2 ≤ 840) → (pre ++ zs).length ≤ 6 → StepsL ⟨pre, [], [], []⟩ (zs.map zoneL) ⟨pre ++ zs, [], [], []⟩
  | [], pre, _, _, _ => by rw [List.append_nil]; exact .nil
  | z :: zs, pre, nd, nm, le => by
    have h := nm z List.mem_cons_self
    have nz : z.1 ∉ pre.map Prod.fst := fun m => by
      rw [List.map_append, List.map_cons] at nd
      exact (List.nodup_append.mp nd).2.2 _ m _ List.mem_cons_self rfl
    have e : pre ++ z :: zs = (pre ++ [z]) ++ zs := by simp
    have lp : pre.length < 6 := by rw [List.length_append, List.length_cons] at le; omega
    rw [e] at nd le ⊢
    exact .cons (.zone z rfl lp h.1 nz h.2.1 h.2.2) (zones_step zs (pre ++ [z]) nd (fun y hy => nm y (List.mem_cons_of_mem _ hy)) le)
theorem rules_step {zs : List (Str × Int)} {pre : List (Str × Str)} {r : DRow} {Z : List Str} (ok : RowOk Z r) : ∀ (ks : List Str) (rs : List ((Str × Str) × Str)), (∀ k ∈ ks, k ∈ KS) → ks.Nodup → (∀ k ∈ ks, (r.name, k) ∉ rs.map Prod.fst) → rs.length + ks.length ≤ 500 →
    StepsL ⟨zs, pre ++ [homeOf r], rs, []⟩ (ruleLs r ks) ⟨zs, pre ++ [homeOf r], rs ++ rulesOf r ks, []⟩
  | [], rs, _, _, _, _ => by
    show StepsL _ [] ⟨_, _, rs ++ [], _⟩
    rw [List.append_nil]
    exact .nil
  | k :: ks, rs, hk, nd, ni, le => by
    have nd' := List.nodup_cons.mp nd
    have le' : rs.length + ks.length + 1 ≤ 500 := by rw [List.length_cons] at le; omega
    have k0 := hk k List.mem_cons_self
    unfold ruleLs rulesOf
    rw [List.flatMap_cons, List.flatMap_cons]
    by_cases h : r.rule k = "keep"
    · rw [if_pos h, if_pos h]
      exact rules_step ok ks rs (fun y hy => hk y (List.mem_cons_of_mem _ hy)) nd'.2 (fun y hy => ni y (List.mem_cons_of_mem _ hy)) (by omega)
    · rw [if_neg h, if_neg h]
      have e : rs ++ ([((r.name, k), r.rule k)] ++ ks.flatMap fun k => if r.rule k = "keep" then [] else [((r.name, k), r.rule k)]) = (rs ++ [((r.name, k), r.rule k)]) ++ rulesOf r ks := by
        rw [← List.append_assoc]
        rfl
      rw [e]
      refine .cons (.rule (s := ⟨zs, pre ++ [homeOf r], rs, []⟩) pre r.name r.home k (r.rule k) rfl rfl k0 (ok.rule k0) h (ni k List.mem_cons_self) (by show rs.length ≤ 500; omega)) ?_
      refine rules_step ok ks (rs ++ [((r.name, k), r.rule k)]) (fun y hy => hk y (List.mem_cons_of_mem _ hy)) nd'.2 (fun y hy m => ?_) (by rw [List.length_append]; show rs.length + 1 + ks.length ≤ 500; omega)
      rw [List.map_append] at m
      rcases List.mem_append.mp m with m | m
      · exact ni y (List.mem_cons_of_mem _ hy) m
      · have e2 : (r.name, y) = (r.name, k) := by simpa using m
        have e3 : y = k := (Prod.mk.inj e2).2
        rw [e3] at hy
        exact nd'.1 hy
theorem rulesOf_len (r : DRow) : ∀ ks : List Str, (rulesOf r ks).length ≤ ks.length
  | [] => Nat.le_refl _
  | k :: ks => by
    have ih := rulesOf_len r ks
    unfold rulesOf at ih ⊢
    rw [List.flatMap_cons, List.length_append, List.length_cons]
    split
    · simp only [List.length_nil]
      omega
    · simp only [List.length_cons, List.length_nil]
      omega
theorem rulesOf_name {r : DRow} {ks : List Str} {x : (Str × Str) × Str} (h : x ∈ rulesOf r ks) : x.1.1 = r.name ∧ x.1.2 ∈ ks ∧ x.2 = r.rule x.1.2 ∧ x.2 ≠ "keep" := by
  obtain ⟨k, hk, hx⟩ := List.mem_flatMap.mp h
  split at hx
  · cases hx
  · rename_i n
    rw [List.mem_singleton.mp hx]
    exact ⟨rfl, hk, rfl, n⟩
theorem rows_step {zs : List (Str × Int)} (zn : ∀ z ∈ zs, nameL (tl z.1)) : ∀ (rows : List DRow) (hs : List (Str × Str)) (rs : List ((Str × Str) × Str)), (∀ r ∈ rows, RowOk (zs.map Prod.fst) r) → (hs.map Prod.fst ++ rows.map DRow.name).Nodup →
    (∀ x ∈ rs, x.1.1 ∈ hs.map Prod.fst) → hs.length + rows.length ≤ 12 → rs.length ≤ 4 * hs.length → StepsL ⟨zs, hs, rs, []⟩ (rows.flatMap rowLs) ⟨zs, hs ++ rows.map homeOf, rs ++ rows.flatMap (fun r => rulesOf r KS), []⟩
  | [], hs, rs, _, _, _, _, _ => by
    show StepsL _ [] ⟨zs, hs ++ [], rs ++ [], []⟩
    rw [List.append_nil, List.append_nil]
    exact .nil
  | r :: rows, hs, rs, ok, nd, hr, le, lr => by
    have o := ok r List.mem_cons_self
    have le' : hs.length + rows.length + 1 ≤ 12 := by rw [List.length_cons] at le; omega
    have nr : r.name ∉ hs.map Prod.fst := fun m => by
      rw [List.map_cons] at nd
      exact (List.nodup_append.mp nd).2.2 _ m _ List.mem_cons_self rfl
    have nh : nameL (tl r.home) := by
      obtain ⟨z, hz, e⟩ := List.mem_map.mp o.home
      rw [← e]
      exact zn z hz
    rw [List.flatMap_cons, List.flatMap_cons, List.map_cons, show hs ++ homeOf r :: rows.map homeOf = (hs ++ [homeOf r]) ++ rows.map homeOf from by simp, ← List.append_assoc]
    have rl := rulesOf_len r KS
    have e4 : KS.length = 4 := rfl
    have s1 : StepsL ⟨zs, hs, rs, []⟩ (rowLs r) ⟨zs, hs ++ [homeOf r], rs ++ rulesOf r KS, []⟩ := by
      refine .cons (.prog (s := ⟨zs, hs, rs, []⟩) (homeOf r) rfl (by show hs.length < 12; omega) o.nm nh nr o.home) ?_
      exact rules_step o KS rs (fun _ h => h) (by decide +kernel) (fun k _ m => by
        obtain ⟨x, hx, e⟩ := List.mem_map.mp m
        have := hr x hx
        rw [e] at this
        exact nr this) (by omega)
    refine s1.app (rows_step zn rows _ _ (fun y hy => ok y (List.mem_cons_of_mem _ hy)) ?_ (fun x hx => ?_) ?_ ?_)
    · rw [List.map_append]
      have e : hs.map Prod.fst ++ (r :: rows).map DRow.name = (hs.map Prod.fst ++ [homeOf r].map Prod.fst) ++ rows.map DRow.name := by simp [homeOf]
      rw [← e]
      exact nd
    · rw [List.map_append]
      rcases List.mem_append.mp hx with h | h
      · exact List.mem_append_left _ (hr x h)
      · rw [(rulesOf_name h).1]
        exact List.mem_append_right _ List.mem_cons_self
    · rw [List.length_append]
      show hs.length + 1 + rows.length ≤ 12
      omega
    · rw [List.length_append, List.length_append]
      show rs.length + (rulesOf r KS).length ≤ 4 * (hs.length + 1)
      omega
theorem routes_step {zs : List (Str × Int)} {hs : List (Str × Str)} {rs : List ((Str × Str) × Str)} (hn : ∀ x ∈ hs.map Prod.fst, nameL (tl x)) : ∀ (os pre : List (Str × Str)), (pre ++ os).Nodup → (∀ r ∈ os, r.1 ∈ hs.map Prod.fst ∧ r.2 ∈ hs.map Prod.fst) → pre.length + os.length ≤ 40 →
    StepsL ⟨zs, hs, rs, pre⟩ (os.map routeL) ⟨zs, hs, rs, pre ++ os⟩
  | [], pre, _, _, _ => by rw [List.append_nil]; exact .nil
  | o :: os, pre, nd, am, le => by
    have le' : pre.length + os.length + 1 ≤ 40 := by rw [List.length_cons] at le; omega
    have a := am o List.mem_cons_self
    have no : o ∉ pre := fun m => (List.nodup_append.mp nd).2.2 _ m _ List.mem_cons_self rfl
    have e : pre ++ o :: os = (pre ++ [o]) ++ os := by simp
    rw [e] at nd ⊢
    exact .cons (.route (s := ⟨zs, hs, rs, pre⟩) o (by show pre.length < 40; omega) (hn _ a.1) (hn _ a.2) a.1 a.2 no) (routes_step hn os (pre ++ [o]) nd (fun y hy => am y (List.mem_cons_of_mem _ hy)) (by rw [List.length_append]; show pre.length + 1 + os.length ≤ 40; omega))
end Wd
end
section
set_option Elab.async false
set_option linter.all false
set_option maxRecDepth 100000
set_option maxHeartbeats 1000000
namespace Wd
open PySem PySem.Spec PyProof.Rows L2 Wt TL NumText
theorem joinL_le (S : List Nat) : ∀ l : List (List Nat), (joinL S l).length ≤ (l.map List.length).sum + S.length * l.length
  | [] => Nat.zero_le _
  | [p] => by simp [joinL]
  | p :: q :: r => by
    have ih := joinL_le S (q :: r)
    show (p ++ (S ++ joinL S (q :: r))).length ≤ _
    rw [List.length_append, List.length_append, List.map_cons, List.sum_cons, List.length_cons (as := q :: r), Nat.mul_succ]
    omega
theorem getS_some {β : Type} : ∀ {zs : List (Str × β)} {k : Str}, k ∈ zs.map Prod.fst → ∃ o, getS zs k = some o
  | z :: zs, k, h => by
    unfold getS
    rw [List.find?_cons]
    by_cases e : z.1 = k
    · rw [decide_eq_true e]
      exact ⟨_, rfl⟩
    · rw [decide_eq_false e]
      have h' : k ∈ zs.map Prod.fst := by
        rcases List.mem_cons.mp h with h | h
        · exact absurd h.symm e
        · exact h
      exact getS_some h'
theorem nl_app {a b : Str} (h : 10 ∉ tl a) (h' : 10 ∉ tl b) : 10 ∉ tl (a ++ b) := by
  rw [tl_append]
  exact fun m => (List.mem_append.mp m).elim h h'
theorem nl_name {z : Str} (h : nameL (tl z)) : 10 ∉ tl z := fun m => by
  have := h.2.2 10 m
  omega
theorem nl_num (n : Int) : 10 ∉ tl (strI n) := by
  rcases str_cases n with ⟨m, rfl, e⟩ | ⟨m, hm, rfl, e⟩
  · rw [e]
    exact numL_free (by omega)
  · rw [e]
    intro h
    rcases List.mem_cons.mp h with h | h
    · cases h
    · exact numL_free (by omega) h
theorem nl_rulesFor {k z : Str} (hk : k ∈ KS) (h : z ∈ rulesFor k) : 10 ∉ tl z := by
  have all : ∀ k ∈ KS, ∀ z ∈ rulesFor k, 10 ∉ tl z := by
    intro k hk
    simp only [KS, List.mem_cons, List.not_mem_nil, or_false] at hk
    rcases hk with rfl | rfl | rfl | rfl <;> decide +kernel
  exact all k hk z h
theorem nl_rule {k z : Str} (hk : k ∈ KS) (h : RuleD k z) : 10 ∉ tl z := by
  have g2 : 10 ∉ tl (" " : Str) := by decide +kernel
  rcases h with ⟨_, h⟩ | ⟨rfl, rfl | ⟨t, ht, _, b, e, b0, be, e1, rfl⟩⟩
  · exact nl_rulesFor hk h
  · decide +kernel
  · exact nl_app (nl_app (nl_app (nl_app (nl_rulesFor hk ht) g2) (nl_num b)) g2) (nl_num e)
theorem line_nl {N : DNet} (ok : DOk N) : ∀ z ∈ linesOf N, 10 ∉ tl z := by
  have g1 : 10 ∉ tl ("zone " : Str) := by decide +kernel
  have g2 : 10 ∉ tl (" " : Str) := by decide +kernel
  have g3 : 10 ∉ tl ("program " : Str) := by decide +kernel
  have g4 : 10 ∉ tl (" at " : Str) := by decide +kernel
  have g5 : 10 ∉ tl ("  " : Str) := by decide +kernel
  have g6 : 10 ∉ tl (" -> " : Str) := by decide +kernel
  have g7 : 10 ∉ tl ("route " : Str) := by decide +kernel
  have ksn : ∀ k ∈ KS, 10 ∉ tl k := by decide +kernel
  have nmz : ∀ z ∈ N.told.map Prod.fst, 10 ∉ tl z := fun z hz => by
    obtain ⟨y, hy, rfl⟩ := List.mem_map.mp hz
    exact nl_name (ok.zname y hy).1
  have nmp : ∀ z ∈ N.names, 10 ∉ tl z := fun z hz => by
    obtain ⟨y, hy, rfl⟩ := List.mem_map.mp hz
    exact nl_name (ok.row y hy).nm
  intro z hz
  unfold linesOf at hz
  rcases List.mem_append.mp hz with hz | hz
  · obtain ⟨y, hy, rfl⟩ := List.mem_map.mp hz
    exact nl_app (nl_app (nl_app g1 (nmz _ (List.mem_map_of_mem hy))) g2) (nl_num _)
  rcases List.mem_append.mp hz with hz | hz
  · obtain ⟨r, hr, hz⟩ := List.mem_flatMap.mp hz
    have ro := ok.row r hr
    rcases List.mem_cons.mp hz with rfl | hz
    · exact nl_app (nl_app (nl_app g3 (nl_name ro.nm)) g4) (nmz _ ro.home)
    · obtain ⟨k, hk, hz⟩ := List.mem_flatMap.mp hz
      split at hz
      · cases hz
      · rw [List.mem_singleton.mp hz]
        exact nl_app (nl_app (nl_app g5 (ksn k hk)) g6) (nl_rule hk (ro.rule hk))
  · obtain ⟨y, hy, rfl⟩ := List.mem_map.mp hz
    have := ok.rts.2 y hy
    exact nl_app (nl_app (nl_app g7 (nmp _ this.1)) g2) (nmp _ this.2)
theorem finOf_names (N : DNet) : (finOf N).hs.map Prod.fst = N.names := by
  unfold finOf DNet.names
  rw [List.map_map]
  rfl
theorem rules_len : ∀ rows : List DRow, (rows.flatMap fun r => rulesOf r KS).length ≤ 4 * rows.length
  | [] => Nat.le_refl _
  | r :: rows => by
    have ih := rules_len rows
    have h := rulesOf_len r KS
    have e4 : KS.length = 4 := rfl
    rw [List.flatMap_cons, List.length_append, List.length_cons]
    omega
theorem name_of {N : DNet} (ok : DOk N) {p : Str} (h : p ∈ N.names) : nameL (tl p) := by
  obtain ⟨y, hy, rfl⟩ := List.mem_map.mp h
  exact (ok.row y hy).nm
theorem reads_of {N : DNet} (ok : DOk N) (l1 : 1 ≤ N.told.length) (l6 : N.told.length ≤ 6) (l12 : N.rows.length ≤ 12) (l40 : N.routes.length ≤ 40) : Reads (linesOf N) (finOf N) := by
  have ll := line_len ok
  have rl := rows_len N.rows
  have n1 : (linesOf N).length ≤ 200 := by
    unfold linesOf
    rw [List.length_append, List.length_append, List.length_map, List.length_map]
    omega
  obtain ⟨z, hz⟩ : ∃ z, N.told[0]? = some z := ⟨N.told[0], List.getElem?_eq_getElem (by omega)⟩
  have mz : zoneL z ∈ linesOf N := List.mem_append_left _ (List.mem_map_of_mem (List.mem_of_getElem? hz))
  have zl : 0 < (tl (zoneL z)).length := by
    rw [← len_tl]
    unfold zoneL
    have g1 : ("zone " : Str).length = 5 := by decide +kernel
    simp only [len_app]
    omega
  have jl : tl (Txt.join "\n" (linesOf N)) = joinL (tl "\n") ((linesOf N).map tl) := by rw [join_eq, tl_join]
  refine ⟨fun e => ?_, by omega, fun y hy => ⟨line_nl ok y hy, ll y hy⟩, ?_, fun e => ?_, ?_, ?_⟩
  · rw [e] at mz
    cases mz
  · rw [len_tl, jl]
    refine Nat.le_trans (joinL_le _ _) ?_
    have s1 : (((linesOf N).map tl).map List.length).sum ≤ 200 * (linesOf N).length := by
      rw [List.map_map]
      exact sum_le (f := List.length ∘ tl) fun y hy => by
        show (tl y).length ≤ 200
        rw [← len_tl]
        exact ll y hy
    have s2 : (tl ("\n" : Str)).length = 1 := by decide +kernel
    rw [s2, List.length_map]
    omega
  · have h := joinL_len (tl "\n") ((linesOf N).map tl) _ (List.mem_map_of_mem (f := tl) mz)
    rw [← jl, e] at h
    have e0 : (tl ("" : Str)).length = 0 := by decide +kernel
    omega
  · unfold linesOf
    refine (zones_step N.told [] (by rw [List.nil_append]; exact ok.zn) ok.zname (by rw [List.nil_append]; exact l6)).app ?_
    rw [List.nil_append]
    refine (rows_step (zs := N.told) (fun z hz => (ok.zname z hz).1) N.rows [] [] ok.row (by show (N.rows.map DRow.name).Nodup; exact ok.pn) (fun x hx => by cases hx) (by show 0 + N.rows.length ≤ 12; omega) (Nat.zero_le _)).app ?_
    rw [List.nil_append, List.nil_append]
    have hn : (N.rows.map homeOf).map Prod.fst = N.names := finOf_names N
    exact routes_step (fun x hx => by rw [hn] at hx; exact name_of ok hx) N.routes [] (by rw [List.nil_append]; exact ok.rts.1) (fun r hr => by rw [hn]; exact ok.rts.2 r hr) (by show 0 + N.routes.length ≤ 40; omega)
  · refine ⟨⟨l6, ok.zname⟩, ⟨by show (N.rows.map homeOf).length ≤ 12; rw [List.length_map]; exact l12, fun y hy => ?_⟩, ⟨?_, fun y hy => ?_⟩, ⟨l40, fun y hy => ?_⟩⟩
    · obtain ⟨r, hr, rfl⟩ := List.mem_map.mp hy
      have ro := ok.row r hr
      obtain ⟨z, hz, e⟩ := List.mem_map.mp ro.home
      refine ⟨ro.nm, ?_⟩
      show nameL (tl r.home)
      rw [← e]
      exact (ok.zname z hz).1
    · have := rules_len N.rows
      show (N.rows.flatMap fun r => rulesOf r KS).length ≤ 60
      omega
    · obtain ⟨r, hr, hy⟩ := List.mem_flatMap.mp hy
      obtain ⟨_, e2, e3, _⟩ := rulesOf_name hy
      rw [e3]
      exact ruleD_len ((ok.row r hr).rule e2)
    · have := ok.rts.2 y hy
      exact ⟨name_of ok this.1, name_of ok this.2⟩
theorem keep_ok {k : Str} (hk : k ∈ KS) : RuleD k "keep" := by
  by_cases h : k = "day"
  · exact .inr ⟨h, .inl rfl⟩
  · refine .inl ⟨h, ?_⟩
    have all : ∀ k ∈ KS, ("keep" : Str) ∈ rulesFor k := by decide +kernel
    exact all k hk
theorem good_of {N : DNet} (ok : DOk N) : GoodS (finOf N) := by
  refine ⟨ok.zname, fun q k hk => ?_, fun r hr => ?_⟩
  · unfold ruleS
    split
    · rename_i r e
      have m := List.mem_of_find?_eq_some e
      have e1 : r.1 = (q, k) := of_decide_eq_true (by simpa using List.find?_some e)
      obtain ⟨row, hrow, hy⟩ := List.mem_flatMap.mp m
      obtain ⟨_, e2, e3, _⟩ := rulesOf_name hy
      rw [e1] at e2 e3
      rw [e3]
      exact (ok.row row hrow).rule e2
    · exact keep_ok hk
  · have := ok.rts.2 r hr
    exact ⟨name_of ok this.1, name_of ok this.2⟩
theorem known_of {N : DNet} (ok : DOk N) {p : Str} (hp : p ∈ N.names) : ∃ h oh, KnownP (finOf N) p h oh := by
  rw [← finOf_names] at hp
  obtain ⟨h, e⟩ := getS_some hp
  obtain ⟨r, hr, er⟩ := List.mem_map.mp (getS_mem e)
  have : r.home = h := congrArg Prod.snd er
  obtain ⟨oh, e2⟩ := getS_some (ok.row r hr).home
  rw [this] at e2
  exact ⟨h, oh, e, e2⟩
theorem knownW_of {N : DNet} (ok : DOk N) {ws : List Str} {p : Str} (hp : p ∈ N.names) (h0 : ws[0]? = some p) (hc : Chain N.routes ws) : KnownW (finOf N) ws := by
  have all : ∀ (i : Nat) (x : Str), ws[i]? = some x → x ∈ N.names := fun i => by
    cases i with
    | zero => intro x h; rw [h0] at h; cases h; exact hp
    | succ i =>
      intro x h
      have li := (List.getElem?_eq_some_iff.mp h).1
      exact (ok.rts.2 _ (hc i _ x (List.getElem?_eq_getElem (by omega)) h)).2
  intro x hx
  obtain ⟨i, hi⟩ := List.mem_iff_getElem?.mp hx
  have m := all i x hi
  exact ⟨name_of ok m, known_of ok m⟩
theorem knownZ_of {N : DNet} {k : Str} {o : Option Str} (h : ∀ n, o = some n → n ∈ N.told.map Prod.fst) (zo : o.isSome = true ↔ k = "zoned") : ∃ oz, KnownZ (finOf N) k o oz := by
  cases o with
  | none => exact ⟨0, fun e => by have := zo.mpr e; cases this⟩
  | some n =>
    obtain ⟨oz, e⟩ := getS_some (h n rfl)
    exact ⟨oz, fun _ => ⟨n, rfl, e⟩⟩
end Wd
end
section
set_option Elab.async false
set_option linter.all false
set_option maxRecDepth 100000
set_option maxHeartbeats 2000000
namespace Wd
open PySem PySem.Spec PyProof.Rows L2 Wt TL NumText
theorem NetAt.but {C x d l : Addr} {a : Int} {H H' : Hp} {s : PSt} (p : Pen H d l a) (b : But d H H') (h : NetAt C x H s) : NetAt C x H' s := by
  obtain ⟨dx, a1, a2, a3, t1, t2, t3, a4, vo, h0, h1, h2, h3, h4, h5, h6, h7, h8⟩ := h.at_
  obtain ⟨cs, c, e1, _⟩ := p
  have n1 : a1 ≠ d := fun e => by
    rw [e, e1] at h1
    have h1 : penD l a c = offD s.zs := HO.dK.inj (Option.some.inj h1)
    cases q : s.zs with
    | nil => rw [q] at h1; cases h1
    | cons z zs =>
      rw [q] at h1
      have := (Prod.mk.inj (List.cons.inj h1).1).2
      cases this
  have n2 : a2 ≠ d := fun e => by
    rw [e, e1] at h2
    have h2 : penD l a c = homD s.hs := HO.dK.inj (Option.some.inj h2)
    cases q : s.hs with
    | nil => rw [q] at h2; cases h2
    | cons z zs =>
      rw [q] at h2
      have := (Prod.mk.inj (List.cons.inj h2).1).2
      cases this
  have ne : ∀ {c : Addr} {o : HO}, H c = some o → (∀ kv, o ≠ .dK kv) → H' c = some o := fun {c o} e m => b c o e (fun z => by rw [z, e1] at e; exact m _ (Option.some.inj e).symm)
  obtain ⟨ts, g1, g2⟩ := h8
  have n4 : a4 ≠ d := fun e => by
    rw [e, e1] at g1
    have g1 : penD l a c = zipD (s.hs.map Prod.fst) ts := HO.dK.inj (Option.some.inj g1)
    unfold zipD at g1
    cases q : s.hs.map Prod.fst with
    | nil => rw [q] at g1; cases g1
    | cons z zs =>
      rw [q] at g1
      cases ts with
      | nil => cases g1
      | cons t ts =>
        cases zs with
        | nil => cases g1
        | cons z2 zs =>
          cases ts with
          | nil => cases g1
          | cons t2 ts =>
            have := (Prod.mk.inj (List.cons.inj (List.cons.inj g1).2).1).2
            cases this
  exact ⟨dx, a1, a2, a3, t1, t2, t3, a4, vo, ne h0 (fun _ => nofun), b _ _ h1 n1, b _ _ h2 n2, ne h3 (fun _ => nofun), ne h4 (fun _ => nofun), ne h5 (fun _ => nofun), ne h6 (fun _ => nofun), h7.mono fun _ _ ⟨c, e, q⟩ => ⟨c, e, ne q (fun _ => nofun)⟩, ts, b _ _ g1 n4, g2.mono fun u n y => ne (show H u = some (.tup ((goalsOf s.os n).map V.str)) from y) (fun _ => nofun)⟩
theorem NetH.same {d t : Addr} {H H' : Hp} {N : DNet} (s : Same H H') (h : NetH d H t N) : NetH d H' t N := by
  obtain ⟨lt, lr, lo, vt, vr, vo, h0, h1, h2, h3, h4, h5, h6⟩ := h.parts
  exact ⟨lt, lr, lo, vt, vr, vo, s _ _ h0, s _ _ h1, s _ _ h2, s _ _ h3, h4.mono fun _ _ y => PairI.same s y, h5.mono fun _ _ y => RowH.same s y, h6.mono fun _ _ y => PairS.same s y⟩
def spLaw (K : PySem.W.Frag) : Sp := fun vs H Q _ => ∃ (a : Addr) (ns : List Int), vs = [.ref a] ∧ SqL K H a (ns.map V.int) ∧ ns.length ≤ 63 ∧ ∀ H', Q (.bl true) H'
end Wd
end
section
set_option Elab.async false
set_option linter.all false
set_option maxRecDepth 100000
set_option maxHeartbeats 1000000
namespace Wd
open PySem PySem.Spec PyProof.Rows L2 Wt TL NumText
/-! ### clocks -/
def spClock (Cn CE : Addr) : Sp := fun vs H Q _ => ∃ (x y : Addr) (s : PSt) (p h z k : Str) (oh oz a b : Int) (o : Option Str), vs = [.ref x, .str p, .ref y] ∧ NetAt Cn x H s ∧ KnownP s p h oh ∧ EntA CE y z k a b o H ∧ KnownZ s k o oz ∧
  (k = "day" → Q .non H) ∧ (k ≠ "day" → ∀ t H', Same H H' → H t = none → H' t = some (.tup [.int (a + leadS k oh oz), .int (b + leadS k oh oz)]) → Q (.ref t) H')
/-- what stands behind a name in a list of pairs, each -/
def filtS {β : Type} (zs : List (Str × β)) (k : Str) : List β := (zs.filter fun z => decide (z.1 = k)).map Prod.snd
theorem filtS_len {β : Type} (zs : List (Str × β)) (k : Str) : (filtS zs k).length ≤ zs.length := by
  unfold filtS
  rw [List.length_map]
  exact List.length_filter_le _ _
theorem filtS_snoc {β : Type} (zs : List (Str × β)) (z : Str × β) (k : Str) : filtS (zs ++ [z]) k = filtS zs k ++ (if z.1 = k then [z.2] else []) := by
  unfold filtS
  rw [List.filter_append, List.map_append]
  by_cases h : z.1 = k
  · simp [h]
  · simp [h]
theorem filtS_head {β : Type} : ∀ {zs : List (Str × β)} {k : Str} {o : β}, getS zs k = some o → (filtS zs k)[0]? = some o
  | [], _, _, h => by cases h
  | z :: zs, k, o, h => by
    unfold getS at h
    rw [List.find?_cons] at h
    unfold filtS
    by_cases e : z.1 = k
    · rw [decide_eq_true e] at h
      rw [List.filter_cons, if_pos (decide_eq_true e)]
      exact h
    · rw [decide_eq_false e] at h
      rw [List.filter_cons, if_neg (by simpa using e)]
      exact filtS_head (zs := zs) h
def spLOff : Sp := fun vs H Q _ => ∃ (d t : Addr) (N : DNet) (z : Str) (o : Int), vs = [.ref t, .str z] ∧ NetH d H t N ∧ N.told.length ≤ 100 ∧ getS N.told z = some o ∧ ∀ H', Same H H' → Q (.int o) H'
def spLHome : Sp := fun vs H Q _ => ∃ (d t : Addr) (N : DNet) (p h : Str), vs = [.ref t, .str p] ∧ NetH d H t N ∧ N.rows.length ≤ 100 ∧ getS (N.rows.map homeOf) p = some h ∧ ∀ H', Same H H' → Q (.str h) H'
section
variable {P : Program} {w : World} {K : PySem.W.Frag} {mg : Str → Option Value} {base : Heap} {f : Addr} {fd : FuncData}
structure DClock (P : Program) (w : World) (K : PySem.W.Frag) (mg : Str → Option Value) (base : Heap) : Prop where
  need_known : Df P w K mg base CX0 3 "need_known" ["net", "p", "entry"] (spKnown (He.ga K "Net") (He.ga K "Entry"))
  clock_lead : Df P w K mg base CX0 3 "clock_lead" ["net", "p", "kind", "zone"] (spLead (He.ga K "Net"))
theorem scClock : FnScope ["net", "p", "entry", "lead"] ["net", "p", "entry"] (defScope (top i_clock)) := ⟨rfl, rfl, rfl, by decide +kernel, rfl, by decide +kernel, by decide +kernel⟩
theorem ok_clock (F : FnG K "clock" i_clock f fd) (T : Tx K mg) (D : DClock P w K mg base) : FnOk P w K mg base CX0 4 f fd ["net", "p", "entry"] (spClock (He.ga K "Net") (He.ga K "Entry")) := by
  refine F.ok scClock (fun vs H Q E h => ?_) (fun cdv A outer s H vs Q E hr h => ?_)
  · obtain ⟨x, y, st, p, h, z, kd, oh, oz, a, b, o, rfl, _⟩ := h
    rfl
  · obtain ⟨x, y, st, p, h, z, kd, oh, oz, a, b, o, rfl, hN, hp, hE, hz, k0, k1⟩ := h
    refine ⟨_, PSs.nox (pss_cons (ps_expr (pe_cd D.need_known (hr.mono (by decide)) pass0 (pa_cons (pv 0) (pa_cons (pv 1) (pa_cons (pv 2) pa_nil)))))
        (pss_cons (ps_if (pt_cmpR op_eq (pe_fld (pv 2) rfl) pe_str (nomark _)) (pss_one (ps_ret pe_non)) pss_nil)
        (pss_cons (ps_set (i := 3) scClock.nd rfl (Or.inl rfl) (pe_cd D.clock_lead (hr.mono (by decide)) pass0 (pa_cons (pv 0) (pa_cons (pv 1) (pa_cons (pe_fld (pv 2) rfl) (pa_cons (pe_fld (pv 2) rfl) pa_nil))))))
        (pss_one (ps_ret (pe_tup (pa_cons (pe_op op_add (pe_fld (pv 2) rfl) (pv 3)) (pa_cons (pe_op op_add (pe_fld (pv 2) rfl) (pv 3)) pa_nil)))))))), ?_⟩
    obtain ⟨dy, e0⟩ := id hE
    refine ⟨_, rfl, _, rfl, _, rfl, x, y, st, p, h, z, kd, oh, a, b, oz, o, rfl, hN, hp, hE, hz, ?_⟩
    refine ⟨_, rfl, y, _, dy, _, _, rfl, e0, T.cl, T.n2, lk_kind, rfl, _, rfl, ifC (fun hk => k0 (V.str.inj hk)) (fun hk => ?_)⟩
    have k1 := k1 fun e => hk (congrArg V.str e)
    refine ⟨_, rfl, _, rfl, _, rfl, y, _, dy, _, _, rfl, e0, T.cl, T.n2, lk_kind, _, rfl, y, _, dy, _, _, rfl, e0, T.cl, T.n5, lk_zone, x, st, p, h, kd, oh, oz, o, rfl, hN, hp, hz, ?_⟩
    exact ⟨_, rfl, y, _, dy, _, _, rfl, e0, T.cl, T.n3, lk_first, _, rfl, _, _, rfl, rfl, _, rfl, y, _, dy, _, _, rfl, e0, T.cl, T.n4, lk_last, _, rfl, _, _, rfl, rfl, (by show 2 ≤ sizeLine; decide), fun t ht => k1 t _ (same_upd ht) ht upd_same⟩
theorem scLOff : FnScope ["_law_net_here", "_law_zone", "_law_name", "_law_offset_here"] ["_law_net_here", "_law_zone"] (defScope (top i__law_offset_of)) := ⟨rfl, rfl, rfl, by decide +kernel, rfl, by decide +kernel, by decide +kernel⟩
theorem ok_loff (F : FnG K "_law_offset_of" i__law_offset_of f fd) : FnOk P w K mg base CX0 1 f fd ["_law_net_here", "_law_zone"] spLOff := by
  refine F.ok scLOff (fun vs H Q E h => ?_) (fun cdv A outer s H vs Q E hr h => ?_)
  · obtain ⟨d, t, N, z, o, rfl, _⟩ := h
    rfl
  · obtain ⟨d, t, N, zn, o, rfl, hN, hz, hg, k⟩ := h
    refine ⟨_, PSs.nox (pss_one (ps_ret (pe_ix ix_list (pe_lc (own := [("_law_name", 2), ("_law_offset_here", 3)]) (g := gTup K 2 (gCons (gName 2) (gCons (gName 3) gNil))) rfl scLOff.nd (pi_list (pe_ix ix_tup (pv 0) pe_int (fun _ _ => rfl))) (blkOk_by (own := [("_law_name", 2), ("_law_offset_here", 3)]) (N := ["_law_net_here", "_law_zone", "_law_name", "_law_offset_here"]) (sc := defScope (top i__law_offset_of)) (by decide +kernel)) (fun _ _ _ _ _ => (pg_tup rfl (pgs_cons (pg_name (i := 2) scLOff.nd rfl (Or.inl rfl) (Or.inr rfl)) (pgs_cons (pg_name (i := 3) scLOff.nd rfl (Or.inl rfl) (Or.inr rfl)) pgs_nil)))) (fun _ _ _ _ _ => (pts_one (pt_cmpR op_eq (pv 2) (pv 1) (nomark _)))) (fun _ _ _ _ _ => (pv 3))) pe_int (fun _ _ => rfl)))), ?_⟩
    obtain ⟨lt, lr, lo, vt, vr, vo, h1, h2, h3, h4, h5, h6, h7⟩ := hN.parts
    have hlen := h5.len
    refine ⟨_, rfl, t, _, _, _, rfl, rfl, SqT.of h1, atI_nat (j := 0) rfl, lt, rfl, ⟨vt, SqL.of h2⟩, fun D hD => lc_list (xs := vt)
      (fun i H' => Same H H' ∧ H' D = some (.lst ((filtS (N.told.take i) zn).map V.int))) ⟨same_upd hD, upd_same⟩ (fun i H' _ q => SqL.of (q.1 _ _ h2)) ?_ ?_⟩
    · rintro i x H1 hx ⟨s1, q1⟩
      obtain ⟨r, hr1, c, rfl, g1⟩ := h5.at hx
      have lt2 : i < N.told.length := (List.getElem?_eq_some_iff.mp hr1).1
      have e2 : N.told[i] = r := (List.getElem?_eq_some_iff.mp hr1).2
      have st : filtS (N.told.take (i + 1)) zn = filtS (N.told.take i) zn ++ (if r.1 = zn then [r.2] else []) := by
        rw [List.take_succ_eq_append_getElem lt2, e2]
        exact filtS_snoc _ _ _
      refine ⟨c, _, rfl, SqT.of (s1 _ _ g1), rfl, _, _, rfl, _, _, rfl, rfl, rfl, ?_⟩
      refine ⟨_, rfl, _, rfl, rfl, _, rfl, ifC (fun hp => ?_) (fun hp => ?_)⟩
      · rw [if_pos (V.str.inj hp)] at st
        refine ⟨_, rfl, _, q1, ?_, ?_, ?_⟩
        · have := filtS_len (N.told.take i) zn
          rw [List.length_take] at this
          rw [List.length_map, sizeLine_eq]
          omega
        · intro b o z
          rw [upd_ne (ne_of_none z hD)]
          exact s1 b o z
        · rw [upd_same, st, List.map_append]
          rfl
      · rw [if_neg (fun z => hp (congrArg V.str z)), List.append_nil] at st
        exact ⟨s1, by rw [st]; exact q1⟩
    · rintro H1 ⟨s1, q1⟩
      rw [List.take_of_length_le (by omega)] at q1
      exact ⟨D, _, _, _, rfl, rfl, SqL.of q1, atI_nat (j := 0) (by rw [List.getElem?_map, filtS_head hg]; rfl), k _ s1⟩
theorem scHome : FnScope ["_law_net_here", "_law_p", "_law_name", "_law_home_here", "_law_rules"] ["_law_net_here", "_law_p"] (defScope (top i__law_home)) := ⟨rfl, rfl, rfl, by decide +kernel, rfl, by decide +kernel, by decide +kernel⟩
theorem ok_lhome (F : FnG K "_law_home" i__law_home f fd) : FnOk P w K mg base CX0 1 f fd ["_law_net_here", "_law_p"] spLHome := by
  refine F.ok scHome (fun vs H Q E h => ?_) (fun cdv A outer s H vs Q E hr h => ?_)
  · obtain ⟨d, t, N, z, o, rfl, _⟩ := h
    rfl
  · obtain ⟨d, t, N, zn, o, rfl, hN, hz, hg, k⟩ := h
    refine ⟨_, PSs.nox (pss_one (ps_ret (pe_ix ix_list (pe_lc (own := [("_law_name", 2), ("_law_home_here", 3), ("_law_rules", 4)]) (g := gTup K 3 (gCons (gName 2) (gCons (gName 3) (gCons (gName 4) gNil)))) rfl scHome.nd (pi_list (pe_ix ix_tup (pv 0) pe_int (fun _ _ => rfl))) (blkOk_by (own := [("_law_name", 2), ("_law_home_here", 3), ("_law_rules", 4)]) (N := ["_law_net_here", "_law_p", "_law_name", "_law_home_here", "_law_rules"]) (sc := defScope (top i__law_home)) (by decide +kernel)) (fun _ _ _ _ _ => (pg_tup rfl (pgs_cons (pg_name (i := 2) scHome.nd rfl (Or.inl rfl) (Or.inr rfl)) (pgs_cons (pg_name (i := 3) scHome.nd rfl (Or.inl rfl) (Or.inr rfl)) (pgs_cons (pg_name (i := 4) scHome.nd rfl (Or.inl rfl) (Or.inr rfl)) pgs_nil))))) (fun _ _ _ _ _ => (pts_one (pt_cmpR op_eq (pv 2) (pv 1) (nomark _)))) (fun _ _ _ _ _ => (pv 3))) pe_int (fun _ _ => rfl)))), ?_⟩
    obtain ⟨lt, lr, lo, vt, vr, vo, h1, h2, h3, h4, h5, h6, h7⟩ := hN.parts
    have hlen := h6.len
    refine ⟨_, rfl, t, _, _, _, rfl, rfl, SqT.of h1, atI_nat (j := 1) rfl, lr, rfl, ⟨vr, SqL.of h3⟩, fun D hD => lc_list (xs := vr)
      (fun i H' => Same H H' ∧ H' D = some (.lst ((filtS ((N.rows.take i).map homeOf) zn).map V.str))) ⟨same_upd hD, upd_same⟩ (fun i H' _ q => SqL.of (q.1 _ _ h3)) ?_ ?_⟩
    · rintro i x H1 hx ⟨s1, q1⟩
      obtain ⟨r, hr1, c, e, rfl, g1, g2, g3⟩ := h6.at hx
      have lt2 : i < N.rows.length := (List.getElem?_eq_some_iff.mp hr1).1
      have e2 : N.rows[i] = r := (List.getElem?_eq_some_iff.mp hr1).2
      have st : filtS ((N.rows.take (i + 1)).map homeOf) zn = filtS ((N.rows.take i).map homeOf) zn ++ (if r.name = zn then [r.home] else []) := by
        rw [List.take_succ_eq_append_getElem lt2, e2, List.map_append]
        exact filtS_snoc _ _ _
      refine ⟨c, _, rfl, SqT.of (s1 _ _ g1), rfl, _, _, rfl, _, _, rfl, _, _, rfl, rfl, rfl, ?_⟩
      refine ⟨_, rfl, _, rfl, rfl, _, rfl, ifC (fun hp => ?_) (fun hp => ?_)⟩
      · rw [if_pos (V.str.inj hp)] at st
        refine ⟨_, rfl, _, q1, ?_, ?_, ?_⟩
        · have := filtS_len ((N.rows.take i).map homeOf) zn
          rw [List.length_map, List.length_take] at this
          rw [List.length_map, sizeLine_eq]
          omega
        · intro b o z
          rw [upd_ne (ne_of_none z hD)]
          exact s1 b o z
        · rw [upd_same, st, List.map_append]
          rfl
      · rw [if_neg (fun z => hp (congrArg V.str z)), List.append_nil] at st
        exact ⟨s1, by rw [st]; exact q1⟩
    · rintro H1 ⟨s1, q1⟩
      rw [List.take_of_length_le (by omega)] at q1
      exact ⟨D, _, _, _, rfl, rfl, SqL.of q1, atI_nat (j := 0) (by rw [List.getElem?_map, filtS_head hg]; rfl), k _ s1⟩
end
end Wd
end
section
set_option Elab.async false
set_option linter.all false
set_option maxRecDepth 100000
set_option maxHeartbeats 2000000
set_option pp.maxSteps 600
/-! ### shown, clock of what is not known -/
namespace Wd
open PySem PySem.Spec PyProof.Rows L2 Wt TL NumText
def spLWhole : Sp := fun vs H Q _ => ∃ n : Int, vs = [.int n] ∧ Q (.bl true) H
section
variable {P : Program} {w : World} {K : PySem.W.Frag} {mg : Str → Option Value} {base : Heap} {f : Addr} {fd : FuncData}
structure DShownE (P : Program) (w : World) (K : PySem.W.Frag) (mg : Str → Option Value) (base : Heap) (CP CZ : Addr) : Prop where
  need_known : Df P w K mg base (L2.CX P w) 5 "need_known" ["net", "p", "entry"] (spKnownE (He.ga K "Net") (He.ga K "Entry") CP CZ)
  copiers : Df P w K mg base CX0 3 "_copiers" ["net"] (spCopiers P w (He.ga K "Copier"))
  minutes_held : Df P w K mg base CX0 2 "minutes_held" ["entry"] (spHeld (He.ga K "Entry"))
  days : Df P w K mg base CX0 7 "_days" ["copiers", "p", "held"] (spDays P w (He.ga K "Copier") (He.ga K "Net"))
structure DClockE (P : Program) (w : World) (K : PySem.W.Frag) (mg : Str → Option Value) (base : Heap) (CP CZ : Addr) : Prop where
  need_known : Df P w K mg base (L2.CX P w) 5 "need_known" ["net", "p", "entry"] (spKnownE (He.ga K "Net") (He.ga K "Entry") CP CZ)
  clock_lead : Df P w K mg base CX0 3 "clock_lead" ["net", "p", "kind", "zone"] (spLead (He.ga K "Net"))
theorem scShown2 : FnScope ["net", "p", "entry"] ["net", "p", "entry"] (defScope (top i_shown)) := ⟨rfl, rfl, rfl, by decide +kernel, rfl, by decide +kernel, by decide +kernel⟩
theorem okE_shown {CP CZ : Addr} (F : FnG K "shown" i_shown f fd) (D : DShownE P w K mg base CP CZ) : FnOk P w K mg base (L2.CX P w) 8 f fd ["net", "p", "entry"] (spKnownE (He.ga K "Net") (He.ga K "Entry") CP CZ) := by
  refine F.ok scShown2 (fun vs H Q E h => ?_) (fun cdv A outer s H vs Q E hr h => ?_)
  · obtain ⟨x, y, st, v, z, kd, a, b, o, ft, rfl, _⟩ := h
    rfl
  · obtain ⟨x, y, st, v, z, kd, a, b, o, ft, rfl, h⟩ := h
    refine ⟨_, (pss_cons (ps_expr (pe_cd D.need_known (hr.mono (by decide)) (passes_call (takes_of rfl rfl rfl rfl) (fun _ _ _ _ h => h)) (pa_cons (pv 0) (pa_cons (pv 1) (pa_cons (pv 2) pa_nil)))))
        (pss_one (ps_ret (pe_cd D.days (hr.mono (by decide)) pass0 (pa_cons (pe_cd D.copiers (hr.mono (by decide)) pass0 (pa_cons (pv 0) pa_nil)) (pa_cons (pv 1) (pa_cons (pe_cd D.minutes_held (hr.mono (by decide)) pass0 (pa_cons (pv 2) pa_nil)) pa_nil))))))), ?_⟩
    exact ⟨_, rfl, _, rfl, _, rfl, x, y, st, v, z, kd, a, b, o, ft, rfl, h⟩
theorem scClock2 : FnScope ["net", "p", "entry", "lead"] ["net", "p", "entry"] (defScope (top i_clock)) := ⟨rfl, rfl, rfl, by decide +kernel, rfl, by decide +kernel, by decide +kernel⟩
theorem okE_clock {CP CZ : Addr} (F : FnG K "clock" i_clock f fd) (T : Tx K mg) (D : DClockE P w K mg base CP CZ) : FnOk P w K mg base (L2.CX P w) 8 f fd ["net", "p", "entry"] (spKnownE (He.ga K "Net") (He.ga K "Entry") CP CZ) := by
  refine F.ok scClock2 (fun vs H Q E h => ?_) (fun cdv A outer s H vs Q E hr h => ?_)
  · obtain ⟨x, y, st, v, z, kd, a, b, o, ft, rfl, _⟩ := h
    rfl
  · obtain ⟨x, y, st, v, z, kd, a, b, o, ft, rfl, h⟩ := h
    refine ⟨_, (pss_cons (ps_expr (pe_cd D.need_known (hr.mono (by decide)) (passes_call (takes_of rfl rfl rfl rfl) (fun _ _ _ _ h => h)) (pa_cons (pv 0) (pa_cons (pv 1) (pa_cons (pv 2) pa_nil)))))
        (pss_cons (ps_if (pt_cmpR op_eq (pe_fld (pv 2) rfl) pe_str (nomark _)) (pss_one (ps_ret pe_non)) pss_nil)
        (pss_cons (ps_set (i := 3) scClock2.nd rfl (Or.inl rfl) (pe_cd D.clock_lead (hr.mono (by decide)) pass0 (pa_cons (pv 0) (pa_cons (pv 1) (pa_cons (pe_fld (pv 2) rfl) (pa_cons (pe_fld (pv 2) rfl) pa_nil))))))
        (pss_one (ps_ret (pe_tup (pa_cons (pe_op op_add (pe_fld (pv 2) rfl) (pv 3)) (pa_cons (pe_op op_add (pe_fld (pv 2) rfl) (pv 3)) pa_nil)))))))), ?_⟩
    exact ⟨_, rfl, _, rfl, _, rfl, x, y, st, v, z, kd, a, b, o, ft, rfl, h⟩
theorem scLWhole : FnScope ["_law_number"] ["_law_number"] (defScope (top i__law_whole)) := ⟨rfl, rfl, rfl, by decide +kernel, rfl, by decide +kernel, by decide +kernel⟩
theorem ok_lwhole (F : FnG K "_law_whole" i__law_whole f fd) (T : Tx K mg) : FnOk P w K mg base CX0 1 f fd ["_law_number"] spLWhole := by
  refine F.ok scLWhole (fun vs H Q E h => ?_) (fun cdv A outer s H vs Q E hr h => ?_)
  · obtain ⟨n, rfl, _⟩ := h
    rfl
  · obtain ⟨n, rfl, k⟩ := h
    refine ⟨_, PSs.nox (pss_one (ps_ret (pe_and (pe_callB call_isi (by rfl) T.isinstance (by decide +kernel) (pa_cons (pv 0) (pa_cons (pe_bltn (v := .ty "int") (by rfl) T.int (by decide +kernel) rfl) pa_nil))) (pe_one (pe_not (pe_callB call_isi (by rfl) T.isinstance (by decide +kernel) (pa_cons (pv 0) (pa_cons (pe_bltn (v := .ty "bool") (by rfl) T.bool (by decide +kernel) rfl) pa_nil)))))))), ?_⟩
    refine ⟨_, rfl, .int n, .ty "int", .type "int", .type "int", true, rfl, .ty _, .base (.int _), kit_ty (by decide +kernel), true, rfl, iteT ?_⟩
    exact ⟨_, rfl, .int n, .ty "bool", .type "int", .type "bool", false, rfl, .ty _, .base (.int _), kit_ty (by decide +kernel), false, rfl, k⟩
end
end Wd
end
section
set_option Elab.async false
set_option linter.all false
set_option maxRecDepth 100000
set_option maxHeartbeats 1000000
namespace Wd
open PySem PySem.Spec PyProof.Rows L2 Wt TL NumText
def spEntryOf : Sp := fun vs H Q _ => ∃ (d l t : Addr) (a st : Int) (k : Str) (N : DNet), vs = [.ref d, .ref t, .str k, .int st] ∧ Pen H d l a ∧ a ≤ 70000 ∧ NetH d H t N ∧ 1 ≤ N.told.length ∧ N.told.length ≤ 100 ∧ (∀ z ∈ N.told, nameL (tl z.1)) ∧ k ∈ KS ∧ 0 < st ∧ st ≤ 720 ∧
  ∀ (fi la : Int) (o : Option Str), Val k fi la o → -1000000000000000000000000 ≤ fi → la ≤ 1000000000000000000100000 → (∀ n, o = some n → n ∈ N.told.map Prod.fst) → Drawn d l a 30 H fun _ H' => ∀ u, H u = none → H' u = some (.tup [.str k, .int fi, .int la, oS o]) → Q (.ref u) H'
section
variable {P : Program} {w : World} {K : PySem.W.Frag} {mg : Str → Option Value} {base : Heap} {f : Addr} {fd : FuncData}
structure DEntOf (P : Program) (w : World) (K : PySem.W.Frag) (mg : Str → Option Value) (base : Heap) : Prop extends DDraw P w K mg base where
  law_minute : Df P w K mg base CX0 3 "_law_minute" ["_law_pen_here", "_law_step"] spMinute
theorem scEntry_of : FnScope ["_law_pen_here", "_law_net_here", "_law_kind", "_law_step", "_law_first", "_law_zone", "_law_length"] ["_law_pen_here", "_law_net_here", "_law_kind", "_law_step"] (defScope (top i__law_entry_of)) := ⟨rfl, rfl, rfl, by decide +kernel, rfl, by decide +kernel, by decide +kernel⟩
theorem ok_lentry (F : FnG K "_law_entry_of" i__law_entry_of f fd) (T : Tx K mg) (D : DEntOf P w K mg base) : FnOk P w K mg base CX0 4 f fd ["_law_pen_here", "_law_net_here", "_law_kind", "_law_step"] spEntryOf := by
  refine F.ok scEntry_of (fun vs H Q E h => ?_) (fun cdv A outer s H vs Q E hr h => ?_)
  · obtain ⟨d, l, t, a, st, kd, N, rfl, _⟩ := h
    rfl
  · obtain ⟨d, l, t, a, st, kd, N, rfl, hp, ha, hN, z1, z100, znm, kin, h0, h1, k⟩ := h
    refine ⟨_, PSs.nox (pss_cons (ps_par (i := 4) (j := 5) (by rfl) scEntry_of.nd rfl rfl (by decide) rfl rfl (pa_cons (pe_cd D.law_minute (hr.mono (by decide)) pass0 (pa_cons (pv 0) (pa_cons (pv 3) pa_nil))) (pa_cons pe_non pa_nil)) (by rfl))
        (pss_cons (ps_if (pt_cmpR op_eq (pv 2) pe_str (nomark _)) (pss_cons (ps_set (i := 4) scEntry_of.nd rfl (Or.inl rfl) (pe_op op_fdiv (pv 4) pe_int))
        (pss_one (ps_ret (pe_tup (pa_cons (pv 2) (pa_cons (pv 4) (pa_cons (pe_op op_add (pv 4) (pe_cd D.law_pick (hr.mono (by decide)) pass0 (pa_cons (pv 0) (pa_cons (pe_lst (pa_cons pe_int (pa_cons pe_int (pa_cons pe_int (pa_cons (pe_cd D.law_draw (hr.mono (by decide)) pass0 (pa_cons (pv 0) (pa_cons pe_int pa_nil))) pa_nil))))) pa_nil)))) (pa_cons pe_non pa_nil)))))))) pss_nil)
        (pss_cons (ps_if (pt_cmpR op_eq (pv 2) pe_str (nomark _)) (pss_one (ps_set (i := 5) scEntry_of.nd rfl (Or.inl rfl) (pe_ix ix_tup (pe_cd D.law_pick (hr.mono (by decide)) pass0 (pa_cons (pv 0) (pa_cons (pe_ix ix_tup (pv 1) pe_int (fun _ _ => rfl)) pa_nil))) pe_int (fun _ _ => rfl)))) pss_nil)
        (pss_cons (ps_set (i := 6) scEntry_of.nd rfl (Or.inl rfl) (pe_cd D.law_pick (hr.mono (by decide)) pass0 (pa_cons (pv 0) (pa_cons (pe_lst (pa_cons pe_int (pa_cons pe_int (pa_cons pe_int (pa_cons pe_int (pa_cons (pv 3) (pa_cons (pe_op op_mul (pv 3) (pe_cd D.law_draw (hr.mono (by decide)) pass0 (pa_cons (pv 0) (pa_cons pe_int pa_nil)))) (pa_cons (pe_cd D.law_draw (hr.mono (by decide)) pass0 (pa_cons (pv 0) (pa_cons pe_int pa_nil))) pa_nil)))))))) pa_nil))))
        (pss_one (ps_ret (pe_tup (pa_cons (pv 2) (pa_cons (pv 4) (pa_cons (pe_op op_add (pv 4) (pv 6)) (pa_cons (pv 5) pa_nil))))))))))), ?_⟩
    refine ⟨_, rfl, _, rfl, d, l, a, st, rfl, hp, by omega, h0, h1, fun r r1 r2 a1 H1 g1 g2 p1 b1 => ⟨_, _, rfl, ?_⟩⟩
    refine ⟨_, rfl, rfl, _, rfl, ifC (fun h => ?_) (fun h => ?_)⟩
    · have hd : kd = "day" := V.str.inj h
      refine ⟨_, rfl, _, _, rfl, rfl, ⟨by decide, by decide⟩, ?_⟩
      refine ⟨_, rfl, _, rfl, _, rfl, _, rfl, _, rfl, d, l, a1, 400, rfl, p1, by omega, by decide, by decide, fun q a2 H2 q0 qn g3 g4 p2 b2 => ?_⟩
      refine ⟨(by show 4 ≤ sizeLine; decide), fun u hu => ?_⟩
      have s3 := same_upd (o := .lst [.int 0, .int 0, .int 1, .int q]) hu
      have uq : (upd H2 u (.lst [.int 0, .int 0, .int 1, .int q])) u = some (.lst [.int 0, .int 0, .int 1, .int q]) := upd_same
      have p3 := p2.same s3
      have b3 := (b1.trans b2).trans (But.same s3)
      generalize upd H2 u (.lst [.int 0, .int 0, .int 1, .int q]) = H3 at s3 uq p3 b3 ⊢
      refine ⟨d, l, a2, _, rfl, p3, by omega, .inl ⟨u, _, rfl, p3.dne uq, uq, List.cons_ne_nil _ _, (by show 4 ≤ 1000; decide), fun x a4 H4 hx g5 g6 p4 b4 => ?_⟩⟩
      obtain ⟨n, rfl, n0, n1⟩ : ∃ n : Int, x = .int n ∧ 0 ≤ n ∧ n ≤ 400 := by
        simp only [List.mem_cons, List.not_mem_nil, or_false] at hx
        rcases hx with rfl | rfl | rfl | rfl
        · exact ⟨_, rfl, by decide, by decide⟩
        · exact ⟨_, rfl, by decide, by decide⟩
        · exact ⟨_, rfl, by decide, by decide⟩
        · exact ⟨_, rfl, q0, by omega⟩
      refine ⟨_, _, rfl, rfl, (by show 4 ≤ sizeLine; decide), fun v hv => ?_⟩
      have b14 := b3.trans b4
      have nz : ¬ (("day" : Str) = "zoned") := by decide +kernel
      have dm : r / 1440 ≤ r ∨ r < 0 := by omega
      refine k (r / 1440) (r / 1440 + n) none ⟨kin, ⟨fun e => (by cases e), fun e => absurd (hd ▸ e) nz⟩, by omega, fun n hn => (by cases hn)⟩ (by omega) (by omega) (fun n hn => (by cases hn)) a4 _ (by omega) (by omega) (p4.same (same_upd hv)) (b14.trans (But.same (same_upd hv))) v (b14.free p4 hv) upd_same
    have nd : kd ≠ "day" := fun e => h (congrArg V.str e)
    dsimp only [tNext, gName]
    refine seq_by (fun σ' H' => ∃ (o : Option Str) (a2 : Int), σ' = [some (.ref d), some (.ref t), some (.str kd), some (.int st), some (.int r), some (oS o), none] ∧ Pen H' d l a2 ∧ a1 ≤ a2 ∧ a2 ≤ a1 + 1 ∧ But d H1 H' ∧ (o.isSome = true ↔ kd = "zoned") ∧
      ∀ n, o = some n → n ∈ N.told.map Prod.fst) (fun Nx hNx => ?_) ?_
    · refine ⟨_, rfl, rfl, _, rfl, ifC (fun h => ?_) (fun h => ?_)⟩
      · have hz : kd = "zoned" := V.str.inj h
        obtain ⟨lt', lr', lo', vt, vr, vo, q0, q1, q2, q3, al1, _, _⟩ := (hN.but hp b1).parts
        have vne : vt ≠ [] := fun e => by
          have := al1.len
          rw [e] at this
          simp only [List.length_nil] at this
          omega
        refine ⟨_, rfl, _, rfl, t, _, _, _, rfl, rfl, SqT.of q0, rfl, ?_⟩
        refine ⟨d, l, a1, _, rfl, p1, by omega, .inl ⟨lt', vt, rfl, p1.dne q1, q1, vne, by rw [al1.len]; omega, fun y a2 H2 hy g3 g4 p2 b2 => ?_⟩⟩
        obtain ⟨j, hj⟩ := List.mem_iff_getElem?.mp hy
        obtain ⟨z, hz1, c, rfl, cq⟩ := al1.at hj
        have mz := List.mem_of_getElem? hz1
        exact ⟨c, _, _, _, rfl, rfl, SqT.of (keepT p1 b2 cq), rfl, hNx _ _ ⟨some z.1, a2, rfl, p2, g3, g4, b2, ⟨fun _ => hz, fun _ => rfl⟩, fun n hn => by cases hn; exact List.mem_map_of_mem mz⟩⟩
      · exact hNx _ _ ⟨none, a1, rfl, p1, Int.le_refl _, by omega, But.refl, ⟨fun e => (by cases e), fun e => absurd (congrArg V.str e) h⟩, fun n hn => (by cases hn)⟩
    rintro σ' H2 ⟨o, a2, rfl, p2, g3, g4, b2, zo, zin⟩
    refine ⟨_, rfl, _, rfl, _, rfl, _, rfl, d, l, a2, 40, rfl, p2, by omega, by decide, by decide, fun x a3 H3 x0 xn g5 g6 p3 b3 => ⟨_, _, rfl, rfl, .inl ⟨by omega, by omega⟩, ?_⟩⟩
    refine ⟨_, rfl, d, l, a3, 5000, rfl, p3, by omega, by decide, by decide, fun y a4 H4 y0 yn g7 g8 p4 b4 => ?_⟩
    refine ⟨(by show 7 ≤ sizeLine; decide), fun u hu => ?_⟩
    have s5 := same_upd (o := .lst [.int 0, .int 59, .int 1439, .int 1440, .int st, .int (st * x), .int y]) hu
    have uq : (upd H4 u (.lst [.int 0, .int 59, .int 1439, .int 1440, .int st, .int (st * x), .int y])) u = some (.lst [.int 0, .int 59, .int 1439, .int 1440, .int st, .int (st * x), .int y]) := upd_same
    have p5 := p4.same s5
    have b5 := (((b1.trans b2).trans b3).trans b4).trans (But.same s5)
    generalize upd H4 u (.lst [.int 0, .int 59, .int 1439, .int 1440, .int st, .int (st * x), .int y]) = H5 at s5 uq p5 b5 ⊢
    refine ⟨d, l, a4, _, rfl, p5, by omega, .inl ⟨u, _, rfl, p5.dne uq, uq, List.cons_ne_nil _ _, (by show 7 ≤ 1000; decide), fun e a6 H6 he g9 g10 p6 b6 => ?_⟩⟩
    have m0 : 0 ≤ st * x := Int.mul_nonneg (by omega) x0
    have m1 : st * x ≤ 720 * 39 := Int.mul_le_mul h1 (by omega) x0 (by decide)
    obtain ⟨n, rfl, n0, n1⟩ : ∃ n : Int, e = .int n ∧ 0 ≤ n ∧ n ≤ 28080 := by
      simp only [List.mem_cons, List.not_mem_nil, or_false] at he
      rcases he with rfl | rfl | rfl | rfl | rfl | rfl | rfl
      · exact ⟨_, rfl, by decide, by decide⟩
      · exact ⟨_, rfl, by decide, by decide⟩
      · exact ⟨_, rfl, by decide, by decide⟩
      · exact ⟨_, rfl, by decide, by decide⟩
      · exact ⟨_, rfl, by omega, by omega⟩
      · exact ⟨_, rfl, m0, by omega⟩
      · exact ⟨_, rfl, y0, by omega⟩
    have b16 := b5.trans b6
    refine ⟨_, rfl, _, rfl, _, rfl, _, rfl, _, _, rfl, rfl, _, rfl, (by show 4 ≤ sizeLine; decide), fun v hv => ?_⟩
    refine k r (r + n) o ⟨kin, zo, by omega, fun n hn => ?_⟩ r1 (by omega) zin a6 _ (by omega) (by omega) (p6.same (same_upd hv)) (b16.trans (But.same (same_upd hv))) v (b16.free p6 hv) upd_same
    obtain ⟨z, hz, e⟩ := List.mem_map.mp (zin n hn)
    rw [← e]
    exact znm z hz
end
end Wd
end
section
set_option Elab.async false
set_option linter.all false
set_option maxRecDepth 100000
set_option maxHeartbeats 1000000
namespace Wd
open PySem PySem.Spec PyProof.Rows L2 Wt TL NumText
theorem names_inj : ∀ {rows : List DRow}, (rows.map DRow.name).Nodup → ∀ {r r' : DRow}, r ∈ rows → r' ∈ rows → r.name = r'.name → r = r'
  | [], _, _, _, h, _, _ => by cases h
  | x :: rows, nd, r, r', h, h', e => by
    rw [List.map_cons] at nd
    obtain ⟨n1, n2⟩ := List.nodup_cons.mp nd
    rcases List.mem_cons.mp h with h | h
    · rcases List.mem_cons.mp h' with h' | h'
      · rw [h, h']
      · exact absurd (by rw [← h, e]; exact List.mem_map_of_mem h') n1
    · rcases List.mem_cons.mp h' with h' | h'
      · exact absurd (by rw [← h', ← e]; exact List.mem_map_of_mem h) n1
      · exact names_inj n2 h h' e
/-- the rule that the net tells is the drawn one -/
theorem ruleS_fin {N : DNet} (ok : DOk N) {r : DRow} (hr : r ∈ N.rows) {k : Str} (hk : k ∈ KS) : ruleS (finOf N).rs r.name k = r.rule k := by
  unfold ruleS
  split
  · rename_i x e
    have m := List.mem_of_find?_eq_some e
    have e1 : x.1 = (r.name, k) := of_decide_eq_true (by simpa using List.find?_some e)
    obtain ⟨row, hrow, hy⟩ := List.mem_flatMap.mp m
    obtain ⟨e0, _, e3, _⟩ := rulesOf_name hy
    rw [e1] at e0 e3
    have e5 : row = r := names_inj ok.pn hrow hr e0.symm
    rw [e3, e5]
  · rename_i e
    by_cases h : r.rule k = "keep"
    · exact h.symm
    · have m : ((r.name, k), r.rule k) ∈ (finOf N).rs := by
        refine List.mem_flatMap.mpr ⟨r, hr, List.mem_flatMap.mpr ⟨k, hk, ?_⟩⟩
        rw [if_neg h]
        exact List.mem_singleton.mpr rfl
      have := List.find?_eq_none.mp e _ m
      simp at this
/-- what holds of all that is held on a walk -/
theorem RunW.all {s : PSt} {ws : List Str} {rows : List HR} (h : RunW s ws rows) {Pr : Nat → HR → Prop} (e0 : ∀ r, rows[0]? = some r → Pr 0 r) (st : ∀ (i : Nat) (q : Str) (r r' : HR), ws[i + 1]? = some q → Pr i r → CopyR s q r r' → Pr (i + 1) r') :
    ∀ (i : Nat) (r : HR), rows[i]? = some r → Pr i r
  | 0, r, e => e0 r e
  | i + 1, r, e => by
    have l1 : i + 1 < rows.length := (List.getElem?_eq_some_iff.mp e).1
    have l2 : i + 1 < ws.length := by rw [← h.len]; exact l1
    have q1 := List.getElem?_eq_getElem (l := rows) (i := i) (by omega)
    exact st i _ _ r (List.getElem?_eq_getElem l2) (RunW.all h e0 st i _ q1) (h.step i _ _ r (List.getElem?_eq_getElem l2) q1 e)
theorem walk_mem {N : DNet} (ok : DOk N) {ws : List Str} {p : Str} (hp : p ∈ N.names) (h0 : ws[0]? = some p) (hc : Chain N.routes ws) : ∀ (i : Nat) (x : Str), ws[i]? = some x → x ∈ N.names := fun i => by
  cases i with
  | zero => intro x h; rw [h0] at h; cases h; exact hp
  | succ i =>
    intro x h
    have li := (List.getElem?_eq_some_iff.mp h).1
    exact (ok.rts.2 _ (hc i _ x (List.getElem?_eq_getElem (by omega)) h)).2
theorem carS_f (x : Int) : carS false x = x := rfl
theorem mem2 {x a b : Str} (h : x ∈ ([a, b] : List Str)) : x = a ∨ x = b := by simpa using h
theorem mem3 {x a b c : Str} (h : x ∈ ([a, b, c] : List Str)) : x = a ∨ x = b ∨ x = c := by simpa using h
theorem valS_nd {k : Str} (h : k ≠ "day") (v : Int) : valS k v = v := by
  unfold valS
  rw [if_neg h]
theorem minS_nd {k : Str} (h : k ≠ "day") (v : Int) : minS k v = v := by
  unfold minS
  rw [if_neg h]
theorem sh_of {d : PyData} (h1 : d.canLay0 = true) (h2 : d.depth ≤ 64) : SeqAt.shaped d = true := by
  show (d.canLay0 && decide (d.depth ≤ 64)) = true
  rw [Bool.and_eq_true]
  exact ⟨h1, decide_eq_true h2⟩
theorem eqv_sh {d : PyData} (h : SeqAt.shaped d = true) : PyData.eqv d d = true := by
  have h' : (d.canLay0 && decide (d.depth ≤ 64)) = true := h
  rw [Bool.and_eq_true] at h'
  exact SeqAt.eqv_refl _ h'.1
theorem sh_int2 (x y : Int) : SeqAt.shaped (.tuple [.int x, .int y]) = true := sh_of (by simp [PyData.canLay0, PyData.canLayAll0]) (by simp [PyData.depth, PyData.depthAll])
/-- two tuples of the same two ints -/
theorem dp_int2 {K : PySem.W.Frag} {H : Hp} {t u : Addr} {x y : Int} (ht : H t = some (.tup [.int x, .int y])) (hu : H u = some (.tup [.int x, .int y])) :
    ∃ d, Dp K H (.ref t) d ∧ Dp K H (.ref u) d ∧ SeqAt.shaped d = true ∧ PyData.eqv d d = true :=
  ⟨.tuple [.int x, .int y], .tup (SqT.of ht) (.cons (.int _) (.cons (.int _) .nil)), .tup (SqT.of hu) (.cons (.int _) (.cons (.int _) .nil)), sh_int2 _ _, eqv_sh (sh_int2 _ _)⟩
theorem DayS.val {s : PSt} {p h k : Str} {o : Option Str} {oh oz v dd : Int} (x : DayS s p k o v dd) (kp : KnownP s p h oh) (kz : KnownZ s k o oz) : dd = (v + leadS k oh oz) / 1440 :=
  (DayS.two x ⟨_, _, _, kp, kz, rfl⟩).1 rfl
/-- the entry that the law draws -/
theorem e0_of {N : DNet} (ok : DOk N) {k : Str} {o : Option Str} {fi la : Int} (v : Val k fi la o) (lo : -1000000000000000000000000 ≤ fi) (hi : la ≤ 1000000000000000000100000) (zin : ∀ n, o = some n → n ∈ N.told.map Prod.fst) : E0k (finOf N) k o fi la :=
  ⟨v, knownZ_of zin v.zo, by omega, by omega⟩
end Wd
end
section
set_option Elab.async false
set_option linter.all false
set_option maxRecDepth 100000
set_option maxHeartbeats 1000000
namespace Wd
open PySem PySem.Spec PyProof.Rows L2 Wt TL NumText
/-! ### the law's own copies -/
def filtR (rows : List DRow) (p : Str) : List DRow := rows.filter fun r => decide (r.name = p)
theorem filtR_snoc (rows : List DRow) (r : DRow) (p : Str) : filtR (rows ++ [r]) p = filtR rows p ++ (if r.name = p then [r] else []) := by
  unfold filtR
  rw [List.filter_append]
  by_cases h : r.name = p
  · simp [h]
  · simp [h]
theorem filtR_len (rows : List DRow) (p : Str) : (filtR rows p).length ≤ rows.length := List.length_filter_le _ _
theorem filtR_head {rows : List DRow} {p : Str} (h : p ∈ rows.map DRow.name) : ∃ r, (filtR rows p)[0]? = some r ∧ r ∈ rows ∧ r.name = p := by
  obtain ⟨y, hy, e⟩ := List.mem_map.mp h
  have m : y ∈ filtR rows p := List.mem_filter.mpr ⟨hy, decide_eq_true e⟩
  have lt : 0 < (filtR rows p).length := List.length_pos_of_mem m
  have m2 : (filtR rows p)[0] ∈ filtR rows p := List.getElem_mem lt
  obtain ⟨h1, h2⟩ := List.mem_filter.mp m2
  exact ⟨_, List.getElem?_eq_getElem lt, h1, of_decide_eq_true h2⟩
/-- at v the rules of a row -/
def RulH (H : Hp) (v : V) (r : DRow) : Prop := ∃ b, v = .ref b ∧ H b = some (.dK (rowD r))
theorem RulH.put {H : Hp} {D : Addr} {zs ys : List V} {v : V} {r : DRow} (hD : H D = some (.lst zs)) (h : RulH H v r) : RulH (upd H D (.lst ys)) v r := by
  obtain ⟨c, e, q⟩ := h
  refine ⟨c, e, ?_⟩
  rw [upd_ne ?_]
  · exact q
  · rintro rfl
    rw [hD] at q
    cases q
def spLRule : Sp := fun vs H Q _ => ∃ (d t : Addr) (N : DNet) (p k : Str), vs = [.ref t, .str p, .str k] ∧ NetH d H t N ∧ DOk N ∧ N.rows.length ≤ 100 ∧ p ∈ N.names ∧ k ∈ KS ∧ ∀ H', Same H H' → Q (.str (ruleS (finOf N).rs p k)) H'
def spSeen : Sp := fun vs H Q _ => ∃ (d t : Addr) (N : DNet) (p k h : Str) (v oh oz : Int) (o : Option Str), vs = [.ref t, .str p, .str k, .int v, oS o] ∧ NetH d H t N ∧ N.told.length ≤ 100 ∧ N.rows.length ≤ 100 ∧ k ∈ KS ∧ KnownP (finOf N) p h oh ∧ KnownZ (finOf N) k o oz ∧ ∀ H', Same H H' → Q (.int (minS k v + leadS k oh oz)) H'
section
variable {P : Program} {w : World} {K : PySem.W.Frag} {mg : Str → Option Value} {base : Heap} {f : Addr} {fd : FuncData}
structure DLEnt (P : Program) (w : World) (K : PySem.W.Frag) (mg : Str → Option Value) (base : Heap) : Prop extends DDraw P w K mg base where
  law_entry_of : Df P w K mg base CX0 4 "_law_entry_of" ["_law_pen_here", "_law_net_here", "_law_kind", "_law_step"] spEntryOf
def spLEnt : Sp := fun vs H Q _ => ∃ (d l t : Addr) (a st : Int) (N : DNet), vs = [.ref d, .ref t, .int st] ∧ Pen H d l a ∧ a ≤ 60000 ∧ NetH d H t N ∧ 1 ≤ N.told.length ∧ N.told.length ≤ 100 ∧ (∀ z ∈ N.told, nameL (tl z.1)) ∧ 0 < st ∧ st ≤ 720 ∧
  ∀ (k : Str) (fi la : Int) (o : Option Str), Val k fi la o → -1000000000000000000000000 ≤ fi → la ≤ 1000000000000000000100000 → (∀ n, o = some n → n ∈ N.told.map Prod.fst) → Drawn d l a 31 H fun _ H' => ∀ u, H u = none → H' u = some (.tup [.str k, .int fi, .int la, oS o]) → Q (.ref u) H'
structure DSeen (P : Program) (w : World) (K : PySem.W.Frag) (mg : Str → Option Value) (base : Heap) : Prop where
  law_offset_of : Df P w K mg base CX0 1 "_law_offset_of" ["_law_net_here", "_law_zone"] spLOff
  law_home : Df P w K mg base CX0 1 "_law_home" ["_law_net_here", "_law_p"] spLHome
theorem scSeen : FnScope ["_law_net_here", "_law_p", "_law_kind", "_law_value", "_law_zone", "_law_here"] ["_law_net_here", "_law_p", "_law_kind", "_law_value", "_law_zone"] (defScope (top i__law_seen)) := ⟨rfl, rfl, rfl, by decide +kernel, rfl, by decide +kernel, by decide +kernel⟩
theorem ok_seen (F : FnG K "_law_seen" i__law_seen f fd) (D : DSeen P w K mg base) : FnOk P w K mg base CX0 2 f fd ["_law_net_here", "_law_p", "_law_kind", "_law_value", "_law_zone"] spSeen := by
  refine F.ok scSeen (fun vs H Q E h => ?_) (fun cdv A outer s H vs Q E hr h => ?_)
  · obtain ⟨d, t, N, p, kd, h, v, oh, oz, o, rfl, _⟩ := h
    rfl
  · obtain ⟨d, t, N, p, kd, hm, v, oh, oz, o, rfl, hN, z1, z2, kin, kp, kz, k⟩ := h
    refine ⟨_, PSs.nox (pss_cons (ps_if (pt_cmpR op_eq (pv 2) pe_str (nomark _)) (pss_one (ps_ret (pe_op op_mul pe_int (pv 3)))) pss_nil)
        (pss_cons (ps_if (pt_cmpR op_eq (pv 2) pe_str (nomark _)) (pss_one (ps_ret (pv 3))) pss_nil)
        (pss_cons (ps_set (i := 5) scSeen.nd rfl (Or.inl rfl) (pe_cd D.law_offset_of (hr.mono (by decide)) pass0 (pa_cons (pv 0) (pa_cons (pe_cd D.law_home (hr.mono (by decide)) pass0 (pa_cons (pv 0) (pa_cons (pv 1) pa_nil))) pa_nil))))
        (pss_one (ps_ret (pe_ifExp (pt_cmpR op_eq (pv 2) pe_str (nomark _)) (pe_op op_add (pv 3) (pv 5)) (pe_op op_add (pe_op op_sub (pv 3) (pe_cd D.law_offset_of (hr.mono (by decide)) pass0 (pa_cons (pv 0) (pa_cons (pv 4) pa_nil)))) (pv 5)))))))), ?_⟩
    have n1 : ¬ (("day" : Str) = "fixed") := by decide +kernel
    have n2 : ¬ (("day" : Str) = "zoned") := by decide +kernel
    have n3 : ¬ (("float" : Str) = "fixed") := by decide +kernel
    have n4 : ¬ (("float" : Str) = "zoned") := by decide +kernel
    have n5 : ¬ (("zoned" : Str) = "fixed") := by decide +kernel
    refine ⟨_, rfl, rfl, _, rfl, ifC (fun h => ?_) (fun h => ?_)⟩
    · obtain rfl : kd = "day" := V.str.inj h
      have e : minS "day" v + leadS "day" oh oz = 1440 * v := by unfold minS leadS; rw [if_pos rfl, if_neg n1, if_neg n2, Int.add_zero]
      rw [e] at k
      exact ⟨_, rfl, _, _, rfl, rfl, .inl ⟨by decide, by decide⟩, k _ (Same.refl _)⟩
    have nd : kd ≠ "day" := fun e => h (congrArg V.str e)
    refine ⟨_, rfl, rfl, _, rfl, ifC (fun h => ?_) (fun h => ?_)⟩
    · obtain rfl : kd = "float" := V.str.inj h
      have e : minS "float" v + leadS "float" oh oz = v := by unfold minS leadS; rw [if_neg nd, if_neg n3, if_neg n4, Int.add_zero]
      rw [e] at k
      exact ⟨_, rfl, k _ (Same.refl _)⟩
    have nf : kd ≠ "float" := fun e => h (congrArg V.str e)
    refine ⟨_, rfl, _, rfl, _, rfl, d, t, N, p, hm, rfl, hN, z2, kp.hs, fun H1 s1 => ?_⟩
    refine ⟨d, t, N, hm, oh, rfl, hN.same s1, z1, kp.zs, fun H2 s2 => ?_⟩
    refine ⟨_, rfl, rfl, _, rfl, ifC (fun h => ?_) (fun h => ?_)⟩
    · obtain rfl : kd = "fixed" := V.str.inj h
      have e : minS "fixed" v + leadS "fixed" oh oz = v + oh := by unfold minS leadS; rw [if_neg nd, if_pos rfl]
      rw [e] at k
      exact ⟨_, rfl, _, rfl, _, _, rfl, rfl, k _ (s1.trans s2)⟩
    · have nx : kd ≠ "fixed" := fun e => h (congrArg V.str e)
      have ez : kd = "zoned" := by
        rcases ks4 kin with e | e | e | e
        · exact absurd e nd
        · exact absurd e nf
        · exact e
        · exact absurd e nx
      subst ez
      obtain ⟨z, rfl, gz⟩ := kz rfl
      have e : minS "zoned" v + leadS "zoned" oh oz = v - oz + oh := by
        unfold minS leadS
        rw [if_neg nd, if_neg n5, if_pos rfl]
        omega
      rw [e] at k
      exact ⟨_, rfl, _, rfl, _, rfl, d, t, N, z, oz, rfl, (hN.same s1).same s2, z1, gz, fun H3 s3 => ⟨_, _, rfl, rfl, _, rfl, _, _, rfl, rfl, k _ ((s1.trans s2).trans s3)⟩⟩
end
end Wd
end
section
set_option Elab.async false
set_option linter.all false
set_option maxRecDepth 100000
set_option maxHeartbeats 2000000
set_option pp.maxSteps 900
/-! ### what is shown -/
namespace Wd
open PySem PySem.Spec PyProof.Rows L2 Wt TL NumText
def spShowsR (K : PySem.W.Frag) (Cn : Addr) : Sp := fun vs H Q _ => ∃ (d x t e : Addr) (N : DNet) (p k : Str) (fi la : Int) (o : Option Str), vs = [.ref x, .ref t, .str p, .ref e] ∧ NetAt Cn x H (finOf N) ∧ NetH d H t N ∧ DOk N ∧ N.told.length ≤ 100 ∧ N.rows.length ≤ 100 ∧ p ∈ N.names ∧
  E0k (finOf N) k o fi la ∧ H e = some (.tup [.str k, .int fi, .int la, oS o]) ∧ ∀ H', Same H H' → Q (.bl true) H'
/-- what the clock is -/
def ClkV (H : Hp) (k : Str) (A B : Int) (v : V) : Prop := (k = "day" ∧ v = .non) ∨ (k ≠ "day" ∧ ∃ t, v = .ref t ∧ H t = some (.tup [.int A, .int B]))
theorem ClkV.same {H H' : Hp} {k : Str} {A B : Int} {v : V} (h : ClkV H k A B v) (s : Same H H') : ClkV H' k A B v := by
  rcases h with h | ⟨n, t, e, q⟩
  · exact .inl h
  · exact .inr ⟨n, t, e, s _ _ q⟩
def clkD (k : Str) (A B : Int) : PyData := if k = "day" then .none else .tuple [.int A, .int B]
theorem ClkV.dp {K : PySem.W.Frag} {H : Hp} {k : Str} {A B : Int} {v : V} (h : ClkV H k A B v) : Dp K H v (clkD k A B) := by
  unfold clkD
  rcases h with ⟨e, rfl⟩ | ⟨n, t, rfl, q⟩
  · rw [if_pos e]
    exact .non
  · rw [if_neg n]
    exact .tup (SqT.of q) (.cons (.int _) (.cons (.int _) .nil))
theorem clk_lay (k : Str) (A B : Int) : (clkD k A B).canLay0 = true := by
  unfold clkD
  split <;> simp [PyData.canLay0, PyData.canLayAll0]
theorem clk_sh (k : Str) (A B : Int) : SeqAt.shaped (clkD k A B) = true := sh_of (clk_lay k A B) (by unfold clkD; split <;> simp only [PyData.depth, PyData.depthAll] <;> omega)
theorem clock_one {Cn CE x y : Addr} {s : PSt} {p h z k : Str} {oh oz a b : Int} {o : Option Str} {H : Hp} {Q : VK} {E : XK} (hX : NetAt Cn x H s) (kp : KnownP s p h oh) (en : EntA CE y z k a b o H) (kz : KnownZ s k o oz)
    (go : ∀ v H', Same H H' → ClkV H' k (minS k a + leadS k oh oz) (minS k b + leadS k oh oz) v → Q v H') : spClock Cn CE [.ref x, .str p, .ref y] H Q E :=
  ⟨x, y, s, p, h, z, k, oh, oz, a, b, o, rfl, hX, kp, en, kz, fun e => go _ _ (Same.refl H) (.inl ⟨e, rfl⟩), fun n t H' s' _ q => go _ _ s' (.inr ⟨n, t, rfl, by rw [minS_nd n, minS_nd n]; exact q⟩)⟩
section
variable {P : Program} {w : World} {K : PySem.W.Frag} {mg : Str → Option Value} {base : Heap} {f : Addr} {fd : FuncData}
structure DShowsR (P : Program) (w : World) (K : PySem.W.Frag) (mg : Str → Option Value) (base : Heap) (CB : Addr) : Prop extends DOf P w K mg base CB where
  law_entry_text : Df P w K mg base CX0 1 "_law_entry_text" ["_law_entry"] (spTxt K)
  shown : Df P w K mg base CX0 8 "shown" ["net", "p", "entry"] (spShown (He.ga K "Net") (He.ga K "Entry"))
  clock : Df P w K mg base CX0 4 "clock" ["net", "p", "entry"] (spClock (He.ga K "Net") (He.ga K "Entry"))
  law_seen : Df P w K mg base CX0 2 "_law_seen" ["_law_net_here", "_law_p", "_law_kind", "_law_value", "_law_zone"] spSeen
  law_whole : Df P w K mg base CX0 1 "_law_whole" ["_law_number"] spLWhole
theorem scShows_right : FnScope ["_law_net_here", "_law_due", "_law_p", "_law_entry", "_law_kind", "_law_first", "_law_last", "_law_zone", "_law_held", "_law_days", "_law_seen_here", "_law_minutes"] ["_law_net_here", "_law_due", "_law_p", "_law_entry"] (defScope (top i__law_shows_right)) := ⟨rfl, rfl, rfl, by decide +kernel, rfl, by decide +kernel, by decide +kernel⟩
theorem ok_showsR {CB : Addr} (F : FnG K "_law_shows_right" i__law_shows_right f fd) (T : Tx K mg) (D : DShowsR P w K mg base CB) : FnOk P w K mg base CX0 9 f fd ["_law_net_here", "_law_due", "_law_p", "_law_entry"] (spShowsR K (He.ga K "Net")) := by
  refine F.ok scShows_right (fun vs H Q E h => ?_) (fun cdv A outer s H vs Q E hr h => ?_)
  · obtain ⟨d, x, t, e, N, p, kd, fi, la, o, rfl, _⟩ := h
    rfl
  · obtain ⟨d, x, t, e, N, p, kd, fi, la, o, rfl, hX, hN, ok, z1, z2, hp, h0, heq, k⟩ := h
    obtain ⟨fdI, GI, _, ds, rE, Bent⟩ := D.ini
    refine ⟨_, PSs.nox (pss_cons (ps_asg (pv 3) (pg_tup rfl (pgs_cons (pg_name (i := 4) scShows_right.nd rfl (Or.inl rfl)) (pgs_cons (pg_name (i := 5) scShows_right.nd rfl (Or.inl rfl)) (pgs_cons (pg_name (i := 6) scShows_right.nd rfl (Or.inl rfl)) (pgs_cons (pg_name (i := 7) scShows_right.nd rfl (Or.inl rfl)) pgs_nil))))))
        (pss_cons (ps_set (i := 8) scShows_right.nd rfl (Or.inl rfl) (pe_make (E := fun _ _ _ => False) D.mkE GI (hr.mono (by decide)) rfl T.Entry Bent rE passF (pa_cons (pe_cd D.law_entry_text (hr.mono (by decide)) pass0 (pa_cons (pv 3) pa_nil)) pa_nil)))
        (pss_cons (ps_par (i := 9) (j := 10) (by rfl) scShows_right.nd rfl rfl (by decide) rfl rfl (pa_cons (pe_cd D.shown (hr.mono (by decide)) pass0 (pa_cons (pv 0) (pa_cons (pv 2) (pa_cons (pv 8) pa_nil)))) (pa_cons (pe_cd D.clock (hr.mono (by decide)) pass0 (pa_cons (pv 0) (pa_cons (pv 2) (pa_cons (pv 8) pa_nil)))) pa_nil)) (by rfl))
        (pss_cons (ps_set (i := 11) scShows_right.nd rfl (Or.inl rfl) (pe_tup (pa_cons (pe_cd D.law_seen (hr.mono (by decide)) pass0 (pa_cons (pv 1) (pa_cons (pv 2) (pa_cons (pv 4) (pa_cons (pv 5) (pa_cons (pv 7) pa_nil)))))) (pa_cons (pe_cd D.law_seen (hr.mono (by decide)) pass0 (pa_cons (pv 1) (pa_cons (pv 2) (pa_cons (pv 4) (pa_cons (pv 6) (pa_cons (pv 7) pa_nil)))))) pa_nil))))
        (pss_cons (ps_if (PW.pt (pw_or (pt_cmpR (op_neD hr.units) (pv 9) (pe_tup (pa_cons (pe_op op_fdiv (pe_ix ix_tup (pv 11) pe_int (fun _ _ => rfl)) pe_int) (pa_cons (pe_op op_fdiv (pe_ix ix_tup (pv 11) pe_int (fun _ _ => rfl)) pe_int) pa_nil))) (nomark _)) (pw_or (pt_not (pt_val (pe_cd D.law_whole (hr.mono (by decide)) pass0 (pa_cons (pe_ix ix_tup (pv 9) pe_int (fun _ _ => rfl)) pa_nil)))) (pw_or1 (pt_not (pt_val (pe_callB call_isi (by rfl) T.isinstance (by decide +kernel) (pa_cons (pv 9) (pa_cons (pe_bltn (v := .ty "tuple") (by rfl) T.tuple (by decide +kernel) rfl) pa_nil))))))))) (pss_one (ps_ret pe_bl)) pss_nil)
        (pss_cons (ps_if (PW.pt (pw_or (pt_cmpR op_ne (pe_cmpR op_eq (pv 4) pe_str (nomark _)) (pe_cmpR op_isN (pv 10) pe_non (nomark _)) (nomark _)) (pw_or1 (PW.pt (pw_and (pt_cmpR op_ne (pv 4) pe_str (nomark _)) (pw_and1 (pt_cmpR (op_neD hr.units) (pv 10) (pv 11) (nomark _)))))))) (pss_one (ps_ret pe_bl)) pss_nil)
        (pss_cons (ps_if (PW.pt (pw_and (pt_cmpR op_eq (pv 4) pe_str (nomark _)) (pw_and1 (pt_cmpR (op_neD hr.units) (pv 9) (pe_tup (pa_cons (pv 5) (pa_cons (pv 6) pa_nil))) (nomark _))))) (pss_one (ps_ret pe_bl)) pss_nil)
        (pss_one (ps_ret (pe_and (pe_cmpR op_eq (pe_fld (pv 8) rfl) (pe_cd D.law_entry_text (hr.mono (by decide)) pass0 (pa_cons (pv 3) pa_nil)) (nomark _)) (pe_and (pe_cmpR (op_eqD hr.units) (pe_cd D.shown (hr.mono (by decide)) pass0 (pa_cons (pv 0) (pa_cons (pv 2) (pa_cons (pv 8) pa_nil)))) (pv 9) (nomark _)) (pe_one (pe_cmpR (op_eqD hr.units) (pe_cd D.clock (hr.mono (by decide)) pass0 (pa_cons (pv 0) (pa_cons (pv 2) (pa_cons (pv 8) pa_nil)))) (pv 10) (nomark _)))))))))))))), ?_⟩
    have val := h0.val
    have lk5 := ks_len val.kin
    have nmL : ∀ n, o = some n → n.length ≤ 100 := fun n hn => by have := name_len (val.nm n hn); omega
    obtain ⟨sa, sb⟩ := h0.sm
    have ml := mk_len val sa sb
    obtain ⟨hm0, oh0, kpx⟩ := known_of ok hp
    obtain ⟨oz, kz⟩ := h0.oz
    refine ⟨_, rfl, e, _, rfl, SqT.of heq, rfl, _, _, rfl, _, _, rfl, _, _, rfl, _, _, rfl, rfl, ?_⟩
    refine ⟨_, rfl, e, kd, fi, la, o, rfl, SqT.of heq, by omega, sa, sb, nmL, fun y dy ny ndy nyd => ⟨y, dy, .str _, some 30, rfl, upd_same, .inl ⟨_, rfl, by omega, fun k' a' b' o' rd H1 kp en => ⟨rfl, ?_⟩, fun no => absurd h0.rd (no _ _ _ _)⟩⟩⟩
    obtain ⟨rfl, rfl, rfl, rfl⟩ := rd.uniq h0.rd
    have s1 : Same H H1 := fun c u q => kp c u (by rw [upd_ne (ne_of_none q ny), upd_ne (ne_of_none q ndy)]; exact q) (ne_of_none q ny)
    obtain ⟨zt, ezt⟩ : ∃ zt, zt = mkT k' a' b' o' := ⟨_, rfl⟩
    have en : EntA (He.ga K "Entry") y zt k' a' b' o' H1 := by rw [ezt]; exact en
    refine ⟨_, rfl, _, rfl, _, rfl, x, y, finOf N, p, hm0, zt, k', oh0, oz, a', b', o', rfl, hX.same s1, kpx, en, kz, fun t1 H2 d0 d1 s2 D0 D1 t1q => ?_⟩
    have s12 := s1.trans s2
    have e0 := D0.val kpx kz
    have e1 := D1.val kpx kz
    obtain ⟨M0, eM0⟩ : ∃ M0, M0 = minS k' a' + leadS k' oh0 oz := ⟨_, rfl⟩
    obtain ⟨M1, eM1⟩ : ∃ M1, M1 = minS k' b' + leadS k' oh0 oz := ⟨_, rfl⟩
    rw [← eM0] at e0
    rw [← eM1] at e1
    refine ⟨_, rfl, _, rfl, _, rfl, ?_⟩
    dsimp only [tNil]
    refine clock_one (hX.same s12) kpx (en.same s2) kz fun v H3 s3 cv => ?_
    rw [← eM0, ← eM1] at cv
    have s13 := s12.trans s3
    refine ⟨_, _, rfl, ?_⟩
    refine ⟨_, rfl, _, rfl, _, rfl, _, rfl, _, rfl, d, t, N, p, k', hm0, a', oh0, oz, o', rfl, hN.same s13, z1, z2, val.kin, kpx, kz, fun H4 s4 => ?_⟩
    refine ⟨_, rfl, _, rfl, _, rfl, _, rfl, _, rfl, d, t, N, p, k', hm0, b', oh0, oz, o', rfl, (hN.same s13).same s4, z1, z2, val.kin, kpx, kz, fun H5 s5 => ⟨(by show 2 ≤ sizeLine; decide), fun t3 ht3 => ?_⟩⟩
    rw [← eM0, ← eM1]
    have s35 := s4.trans s5
    have s6 := same_upd (o := .tup [.int M0, .int M1]) ht3
    have t3q : (upd H5 t3 (.tup [.int M0, .int M1])) t3 = some (.tup [.int M0, .int M1]) := upd_same
    have s36 := s35.trans s6
    generalize upd H5 t3 (.tup [.int M0, .int M1]) = H6 at s6 t3q s36 ⊢
    have s16 := s13.trans s36
    have t1q6 := s36 _ _ (s3 _ _ t1q)
    have cv6 := cv.same s36
    have en6 := ((en.same s2).same s3).same s36
    dsimp only [gName]
    refine ⟨_, rfl, _, rfl, t3, _, _, _, rfl, rfl, SqT.of t3q, rfl, M0, 1440, rfl, rfl, ⟨by decide, by decide⟩, ?_⟩
    refine ⟨_, rfl, t3, _, _, _, rfl, rfl, SqT.of t3q, rfl, M1, 1440, rfl, rfl, ⟨by decide, by decide⟩, (by show 2 ≤ sizeLine; decide), fun t4 ht4 => ?_⟩
    subst e0
    subst e1
    have s7 := same_upd (o := .tup [.int (M0 / 1440), .int (M1 / 1440)]) ht4
    have t4q : (upd H6 t4 (.tup [.int (M0 / 1440), .int (M1 / 1440)])) t4 = some (.tup [.int (M0 / 1440), .int (M1 / 1440)]) := upd_same
    generalize upd H6 t4 (.tup [.int (M0 / 1440), .int (M1 / 1440)]) = H7 at s7 t4q ⊢
    have t1q7 := s7 _ _ t1q6
    have t3q7 := s7 _ _ t3q
    have cv7 := cv6.same s7
    have en7 := en6.same s7
    have s17 := s16.trans s7
    obtain ⟨dA, pA, pB, shA, eqA⟩ := dp_int2 (K := K) t1q7 t4q
    refine ⟨dA, dA, pA, pB, shA, shA, _, rfl, ?_⟩
    rw [eqA]
    refine iteF ?_
    refine ⟨_, rfl, t1, _, _, _, rfl, rfl, SqT.of t1q7, rfl, M0 / 1440, rfl, true, rfl, iteF ?_⟩
    refine ⟨_, rfl, .ref t1, .ty "tuple", .type "tuple", .type "tuple", true, rfl, .ty _, .base (.tup t1q7), kit_ty (by decide +kernel), true, rfl, iteF ?_⟩
    -- the end, told once
    have last : ∀ H8, Same H7 H8 → tRet (tAndV (tOp rEq (tFld K (tVar 8) "text") (tCall (spTxt K) [] E0 (tCons (tVar 3) tNil))) (tAndV (tOp (rEqD K) (tCall (spShown (He.ga K "Net") (He.ga K "Entry")) [] E0 (tCons (tVar 0) (tCons (tVar 2) (tCons (tVar 8) tNil)))) (tVar 9)) (tOp (rEqD K) (tCall (spClock (He.ga K "Net") (He.ga K "Entry")) [] E0 (tCons (tVar 0) (tCons (tVar 2) (tCons (tVar 8) tNil)))) (tVar 10)))) { nx := fun x H' => Q V.non H', rt := Q }
        [some (.ref x), some (.ref t), some (.str p), some (.ref e), some (.str k'), some (.int a'), some (.int b'), some (oS o'), some (.ref y), some (.ref t1), some v, some (.ref t3)] H8 := fun H8 s8 => by
      have s18 := s17.trans s8
      obtain ⟨dy', e8⟩ := en7.same s8
      refine ⟨_, rfl, y, _, dy', _, _, rfl, e8, T.cl, T.n1, lk_text, _, rfl, e, k', a', b', o', rfl, SqT.of (s18 _ _ heq), by omega, sa, sb, nmL, rfl, _, rfl, ifB (by rw [ezt]; simp) ?_⟩
      refine ⟨_, rfl, _, rfl, _, rfl, x, y, finOf N, p, hm0, zt, k', oh0, oz, a', b', o', rfl, hX.same s18, kpx, en7.same s8, kz, fun t6 H9 d2 d3 s9 D2 D3 t6q => ?_⟩
      have e2 := D2.val kpx kz
      have e3 := D3.val kpx kz
      rw [← eM0] at e2
      rw [← eM1] at e3
      subst e2
      subst e3
      obtain ⟨dB, pC, pD, shB, eqB⟩ := dp_int2 (K := K) t6q (s9 _ _ (s8 _ _ t1q7))
      refine ⟨_, rfl, dB, dB, pC, pD, shB, shB, _, rfl, ?_⟩
      rw [eqB]
      refine iteT ?_
      refine ⟨_, rfl, _, rfl, _, rfl, ?_⟩
      dsimp only [tNil]
      refine clock_one (hX.same (s18.trans s9)) kpx ((en7.same s8).same s9) kz fun v' H10 s10 cv' => ?_
      rw [← eM0, ← eM1] at cv'
      refine ⟨_, rfl, _, _, cv'.dp, ((cv7.same s8).same (s9.trans s10)).dp, clk_sh _ _ _, clk_sh _ _ _, ?_⟩
      rw [PySem.SeqAt.eqv_refl _ (clk_lay _ _ _)]
      exact k _ ((s18.trans s9).trans s10)
    rcases cv7 with ⟨hd, rfl⟩ | ⟨nd, t2, rfl, t2q⟩
    · subst hd
      refine ⟨_, rfl, rfl, _, rfl, rfl, rfl, _, rfl, ifN (by simp) ?_⟩
      refine ⟨_, rfl, rfl, _, rfl, ifN (by simp) (iteF ?_)⟩
      refine ⟨_, rfl, rfl, _, rfl, ifB (by simp) ?_⟩
      refine ⟨_, rfl, _, rfl, _, rfl, (by show 2 ≤ sizeLine; decide), fun t5 ht5 => ?_⟩
      have n1 : ¬ (("day" : Str) = "fixed") := by decide +kernel
      have n2 : ¬ (("day" : Str) = "zoned") := by decide +kernel
      have day : ∀ v : Int, (minS "day" v + leadS "day" oh0 oz) / 1440 = v := fun v => by
        unfold minS leadS
        rw [if_pos rfl, if_neg n1, if_neg n2, Int.add_zero, Int.mul_ediv_cancel_left _ (by decide)]
      rw [eM0, eM1, day, day] at t1q7
      have s8 := same_upd (o := .tup [.int a', .int b']) ht5
      obtain ⟨dB, pC, pD, shB, eqB⟩ := dp_int2 (K := K) (s8 _ _ t1q7) upd_same
      refine ⟨dB, dB, pC, pD, shB, shB, _, rfl, ?_⟩
      rw [eqB]
      exact iteF (last _ s8)
    · have nd' : V.str k' ≠ V.str "day" := fun z => nd (V.str.inj z)
      refine ⟨_, rfl, rfl, _, rfl, rfl, rfl, _, rfl, ifN (by simp [nd']) ?_⟩
      refine ⟨_, rfl, rfl, _, rfl, ifB (by simp [nd']) ?_⟩
      obtain ⟨dB, pC, pD, shB, eqB⟩ := dp_int2 (K := K) t2q t3q7
      refine ⟨_, rfl, _, rfl, dB, dB, pC, pD, shB, shB, _, rfl, ?_⟩
      rw [eqB]
      refine iteF ?_
      exact ⟨_, rfl, rfl, _, rfl, ifN (by simp [nd']) (iteF (last _ (Same.refl _)))⟩
end
end Wd
end
section
set_option Elab.async false
set_option linter.all false
set_option maxRecDepth 100000
set_option maxHeartbeats 4000000
set_option pp.maxSteps 900
/-! ### what is refused -/
namespace Wd
open PySem PySem.Spec PyProof.Rows L2 Wt TL NumText LamX
/-- the tables of the law's lambdas -/
def LT (K : PySem.W.Frag) : List (Addr × Str) := [((He.cT K ("_law_refused", none)).2, ("_law_refused" : Str) ++ ".<locals>." ++ "<lambda>")]
/-- a def that calls a lambda -/
structure Gm (K : PySem.W.Frag) (mg : Str → Option Value) (x : Str) (i : Nat) (g : Addr) (fd : FuncData) : Prop where
  F : FnG K x i g fd
  g : mg x = some (.ref g)
theorem PairS.extN {H H' : Hp} (e : ExtN H H') {v : V} {x : Str × Str} (h : PairS H v x) : PairS H' v x := by
  obtain ⟨c, e1, q⟩ := h
  exact ⟨c, e1, e _ _ q (fun _ => nofun)⟩
theorem TgtAt.extN {H H' : Hp} {a : Addr} {ns : List Str} {os : List (Str × Str)} (s : ExtN H H') (h : TgtAt H a ns os) : TgtAt H' a ns os := by
  obtain ⟨ts, h1, h2⟩ := h
  exact ⟨ts, s _ _ h1 (fun _ => nofun), h2.mono fun _ _ y => s _ _ (show H _ = some (.tup _) from y) (fun _ => nofun)⟩
theorem NetAt.extN {C x : Addr} {H H' : Hp} {s : PSt} (e : ExtN H H') (h : NetAt C x H s) : NetAt C x H' s := by
  obtain ⟨dx, a1, a2, a3, t1, t2, t3, a4, vo, h0, h1, h2, h3, h4, h5, h6, h7, h8⟩ := h.at_
  exact ⟨dx, a1, a2, a3, t1, t2, t3, a4, vo, e _ _ h0 (fun _ => nofun), e _ _ h1 (fun _ => nofun), e _ _ h2 (fun _ => nofun), e _ _ h3 (fun _ => nofun), e _ _ h4 (fun _ => nofun), e _ _ h5 (fun _ => nofun), e _ _ h6 (fun _ => nofun), h7.mono fun _ _ y => y.extN e, h8.extN e⟩
theorem NetH.extN {d t : Addr} {H H' : Hp} {N : DNet} (e : ExtN H H') (h : NetH d H t N) : NetH d H' t N := by
  obtain ⟨lt, lr, lo, vt, vr, vo, h1, h2, h3, h4, h5, h6, h7⟩ := h.parts
  refine ⟨lt, lr, lo, vt, vr, vo, e _ _ h1 (fun _ => nofun), e _ _ h2 (fun _ => nofun), e _ _ h3 (fun _ => nofun), e _ _ h4 (fun _ => nofun), h5.mono fun _ _ z => ?_, h6.mono fun _ _ z => ?_, h7.mono fun _ _ z => z.extN e⟩
  · obtain ⟨c, e1, q⟩ := z
    exact ⟨c, e1, e _ _ q (fun _ => nofun)⟩
  · obtain ⟨c, b, e1, q1, q2, q3⟩ := z
    exact ⟨c, b, e1, e _ _ q1 (fun _ => nofun), q2, e _ _ q3 (fun _ => nofun)⟩
theorem Pen.extN {d l : Addr} {a : Int} {H H' : Hp} (e : ExtN H H') (h : Pen H d l a) : Pen H' d l a := by
  obtain ⟨cs, b, h1, h2, h3⟩ := h
  exact ⟨cs, b, e _ _ h1 (fun _ => nofun), e _ _ h2 (fun _ => nofun), h3⟩
theorem EntA.extN {C x : Addr} {z k : Str} {a b : Int} {o : Option Str} {H H' : Hp} (e : ExtN H H') (h : EntA C x z k a b o H) : EntA C x z k a b o H' := by
  obtain ⟨dx, h⟩ := h
  exact ⟨dx, e _ _ h (fun _ => nofun)⟩
/-- a value that is handed in for a name, as data -/
inductive MemD (H : Hp) : V → PyData → Prop
  | str (z : Str) (h : PyData.strOk z = true) : MemD H (.str z) (.str z)
  | int (n : Int) : MemD H (.int n) (.int n)
  | non : MemD H .non .none
  | bl (b : Bool) : MemD H (.bl b) (.bool b)
  | tup (a : Addr) (z : Str) (h : PyData.strOk z = true) (e : H a = some (.tup [.str z])) : MemD H (.ref a) (.tuple [.str z])
  | lst (a : Addr) (z : Str) (h : PyData.strOk z = true) (e : H a = some (.lst [.str z])) : MemD H (.ref a) (.list [.str z])
theorem MemD.extN {H H' : Hp} {v : V} {d : PyData} (h : MemD H v d) (e : ExtN H H') : MemD H' v d := by
  cases h with
  | str z h => exact .str z h
  | int n => exact .int n
  | non => exact .non
  | bl b => exact .bl b
  | tup a z h q => exact .tup a z h (e _ _ q (fun _ => nofun))
  | lst a z h q => exact .lst a z h (e _ _ q (fun _ => nofun))
theorem MemD.dp {K : PySem.W.Frag} {H : Hp} {v : V} {d : PyData} (h : MemD H v d) : Dp K H v d := by
  cases h with
  | str z h => exact .str z
  | int n => exact .int n
  | non => exact .non
  | bl b => exact .bl b
  | tup a z h q => exact .tup (SqT.of q) (.cons (.str _) .nil)
  | lst a z h q => exact .lst (SqL.of q) (.cons (.str _) .nil)
theorem MemD.lay {H : Hp} {v : V} {d : PyData} (h : MemD H v d) : d.canLay0 = true ∧ d.depth ≤ 3 := by
  cases h with
  | str z h => exact ⟨by simp [PyData.canLay0, h], by simp [PyData.depth]⟩
  | int n => exact ⟨by simp [PyData.canLay0], by simp [PyData.depth]⟩
  | non => exact ⟨by simp [PyData.canLay0], by simp [PyData.depth]⟩
  | bl b => exact ⟨by simp [PyData.canLay0], by simp [PyData.depth]⟩
  | tup a z h q => exact ⟨by simp [PyData.canLay0, PyData.canLayAll0, h], by simp [PyData.depth, PyData.depthAll]⟩
  | lst a z h q => exact ⟨by simp [PyData.canLay0, PyData.canLayAll0, h], by simp [PyData.depth, PyData.depthAll]⟩
/-- what is wrong, as data -/
inductive FltD (H : Hp) : Flt → PyData → Prop
  | prog {v : V} {d : PyData} (h : MemD H v d) : FltD H (.prog v) (.tuple [.str "program", d, .bool true])
  | zone {z : Str} (h : PyData.strOk z = true) : FltD H (.zone z) (.tuple [.str "zone", .str z, .bool true])
theorem FltD.extN {H H' : Hp} {f : Flt} {d : PyData} (h : FltD H f d) (e : ExtN H H') : FltD H' f d := by
  cases h with
  | prog h => exact .prog (h.extN e)
  | zone h => exact .zone h
theorem FltD.dp {K : PySem.W.Frag} {H : Hp} {f : Flt} {d : PyData} {p : Addr} (h : FltD H f d) (q : H p = some (.tup (fltV f))) : Dp K H (.ref p) d := by
  cases h with
  | prog h => exact .tup (SqT.of q) (.cons (.str _) (.cons h.dp (.cons (.bl _) .nil)))
  | zone h => exact .tup (SqT.of q) (.cons (.str _) (.cons (.str _) (.cons (.bl _) .nil)))
theorem FltD.lay {H : Hp} {f : Flt} {d : PyData} (h : FltD H f d) : d.canLay0 = true ∧ d.depth ≤ 60 := by
  have s1 : PyData.strOk ("program" : Str) = true := by decide +kernel
  have s3 : PyData.strOk ("zone" : Str) = true := by decide +kernel
  cases h with
  | @prog v d h =>
    obtain ⟨h1, h2⟩ := h.lay
    refine ⟨by simp [PyData.canLay0, PyData.canLayAll0, s1, h1], ?_⟩
    simp only [PyData.depth, PyData.depthAll]
    omega
  | zone h => exact ⟨by simp [PyData.canLay0, PyData.canLayAll0, s3, h], by simp [PyData.depth, PyData.depthAll]⟩
theorem FltD.shaped {H : Hp} {f : Flt} {d : PyData} (h : FltD H f d) : SeqAt.shaped d = true := sh_of h.lay.1 (by have := h.lay.2; omega)
/-- a row: a kept lambda, and what is due of it; Hb the heap ahead of all rows -/
def RowK (X : Cx) (W : L2.St → Hp → Prop) (CP CZ : Addr) (Hb H : Hp) (v : V) : Prop := ∃ (tp f tt : Addr) (t : XK → TE) (fl : Flt), v = .ref tp ∧ H tp = some (.tup [.ref f, .ref tt]) ∧ H tt = some (.tup (fltV fl)) ∧ Kept X 8 H f t ∧ (∃ D, FltD Hb fl D) ∧
  ∀ E σ H' Q, W σ H' → RaiseF E CP CZ H' fl → t E σ H' Q
theorem RowK.ext {X : Cx} {W : L2.St → Hp → Prop} {CP CZ : Addr} {Hb H H' : Hp} {v : V} (h : RowK X W CP CZ Hb H v) (e : ExtN H H') : RowK X W CP CZ Hb H' v := by
  obtain ⟨tp, f, tt, t, fl, h1, h2, h3, h4, h5, h6⟩ := h
  exact ⟨tp, f, tt, t, fl, h1, e _ _ h2 (fun _ => nofun), e _ _ h3 (fun _ => nofun), h4.ext e, h5, h6⟩
theorem RowK.put {X : Cx} {W : L2.St → Hp → Prop} {CP CZ : Addr} {Hb H : Hp} {v : V} {r : Addr} {xs ys : List V} (h : RowK X W CP CZ Hb H v) (q : H r = some (.lst xs)) : RowK X W CP CZ Hb (upd H r (.lst ys)) v := by
  obtain ⟨tp, f, tt, t, fl, h1, h2, h3, ⟨a, b, c, d, p, u, k1, k2, k3⟩, h5, h6⟩ := h
  have ne : ∀ {c : Addr} {o : HO}, H c = some o → (∀ xs, o ≠ .lst xs) → upd H r (.lst ys) c = some o := fun {c o} e n => by
    rw [upd_ne (fun z => n xs (Option.some.inj (e.symm.trans (by rw [z]; exact q))))]
    exact e
  exact ⟨tp, f, tt, t, fl, h1, ne h2 (fun _ => nofun), ne h3 (fun _ => nofun), ⟨a, b, c, d, p, u, ne k1 (fun xs z => by unfold FunO at z; cases z), ne k2 (fun xs z => by unfold CodeO at z; cases z), k3⟩, h5, h6⟩
/-- the rows so far, in the list at r -/
structure RowsK (K : PySem.W.Frag) (X : Cx) (W : L2.St → Hp → Prop) (CP CZ : Addr) (Hb H : Hp) (r : Addr) (vs : List V) : Prop where
  at_ : H r = some (.lst vs)
  new : Hb r = none
  ext : ExtN Hb H
  tabs : Tabs (LT K) H
  rows : ∀ v ∈ vs, RowK X W CP CZ Hb H v
theorem TabS.put {H : Hp} {P r : Addr} {q : Str} {xs ys : List V} (t : TabS H P q) (e : H r = some (.lst xs)) : TabS (upd H r (.lst ys)) P q := by
  obtain ⟨ps, h1, h2, h3⟩ := t
  have n1 : P ≠ r := fun z => by
    rw [z, e] at h1
    cases h1
  refine ⟨ps, by rw [upd_ne n1]; exact h1, h2, fun pos cv hc => ?_⟩
  obtain ⟨c, e1, e2⟩ := h3 pos cv hc
  exact ⟨c, e1, by rw [upd_ne (fun z => by rw [z, e] at e2; unfold CodeO at e2; cases e2)]; exact e2⟩
/-- one more row -/
theorem RowsK.more {K : PySem.W.Frag} {X : Cx} {W : L2.St → Hp → Prop} {CP CZ : Addr} {Hb H H1 : Hp} {r f tt tp : Addr} {vs : List V} {t : XK → TE} {fl : Flt} (h : RowsK K X W CP CZ Hb H r vs) (ex : ExtN H H1) (tb : Tabs (LT K) H1) (kp : Kept X 8 H1 f t)
    (ntt : H1 tt = none) (ntp : upd H1 tt (.tup (fltV fl)) tp = none) (hd : ∃ D, FltD Hb fl D) (does : ∀ E σ H' Q, W σ H' → RaiseF E CP CZ H' fl → t E σ H' Q) :
    (upd (upd H1 tt (.tup (fltV fl))) tp (.tup [.ref f, .ref tt])) r = some (.lst vs) ∧ RowsK K X W CP CZ Hb (upd (upd (upd H1 tt (.tup (fltV fl))) tp (.tup [.ref f, .ref tt])) r (.lst (vs ++ [.ref tp]))) r (vs ++ [.ref tp]) := by
  have s2 := same_upd (o := .tup (fltV fl)) ntt
  have q2 : upd H1 tt (.tup (fltV fl)) tt = some (.tup (fltV fl)) := upd_same
  generalize upd H1 tt (.tup (fltV fl)) = H2 at ntp s2 q2 ⊢
  have s3 := same_upd (o := .tup [.ref f, .ref tt]) ntp
  have q3 : upd H2 tp (.tup [.ref f, .ref tt]) tp = some (.tup [.ref f, .ref tt]) := upd_same
  generalize upd H2 tp (.tup [.ref f, .ref tt]) = H3 at s3 q3 ⊢
  have at1 := ex _ _ h.at_ (fun _ => nofun)
  have at3 : H3 r = some (.lst vs) := s3 _ _ (s2 _ _ at1)
  have x3 : ExtN H H3 := (ex.trans (ExtN.of s2)).trans (ExtN.of s3)
  refine ⟨at3, upd_same, h.new, fun b o e n => ?_, fun p hp => TabS.put (Tabs.ext (Tabs.ext tb s2) s3 p hp) at3, fun v hv => ?_⟩
  · rw [upd_ne (ne_of_none e h.new)]
    exact x3 _ _ (h.ext _ _ e n) n
  · rcases List.mem_append.mp hv with m | m
    · exact ((h.rows v m).ext x3).put at3
    · obtain rfl := List.mem_singleton.mp m
      exact RowK.put (v := .ref tp) ⟨tp, f, tt, t, fl, rfl, q3, s3 _ _ q2, (kp.same s2).same s3, hd, does⟩ at3
/-- the first row -/
theorem RowsK.one {K : PySem.W.Frag} {X : Cx} {W : L2.St → Hp → Prop} {CP CZ : Addr} {Hb H1 : Hp} {r f tt tp : Addr} {t : XK → TE} {fl : Flt} (ex : ExtN Hb H1) (tb : Tabs (LT K) H1) (kp : Kept X 8 H1 f t)
    (ntt : H1 tt = none) (ntp : upd H1 tt (.tup (fltV fl)) tp = none) (nr : upd (upd H1 tt (.tup (fltV fl))) tp (.tup [.ref f, .ref tt]) r = none) (nb : Hb r = none) (hd : ∃ D, FltD Hb fl D) (does : ∀ E σ H' Q, W σ H' → RaiseF E CP CZ H' fl → t E σ H' Q) :
    RowsK K X W CP CZ Hb (upd (upd (upd H1 tt (.tup (fltV fl))) tp (.tup [.ref f, .ref tt])) r (.lst [.ref tp])) r [.ref tp] := by
  have s2 := same_upd (o := .tup (fltV fl)) ntt
  have q2 : upd H1 tt (.tup (fltV fl)) tt = some (.tup (fltV fl)) := upd_same
  generalize upd H1 tt (.tup (fltV fl)) = H2 at ntp nr s2 q2 ⊢
  have s3 := same_upd (o := .tup [.ref f, .ref tt]) ntp
  have q3 : upd H2 tp (.tup [.ref f, .ref tt]) tp = some (.tup [.ref f, .ref tt]) := upd_same
  generalize upd H2 tp (.tup [.ref f, .ref tt]) = H3 at s3 q3 nr ⊢
  have s4 := same_upd (o := .lst [.ref tp]) nr
  have s14 := (s2.trans s3).trans s4
  exact ⟨upd_same, nb, ex.trans (ExtN.of s14), Tabs.ext tb s14, fun v hv => by
    obtain rfl := List.mem_singleton.mp hv
    exact ⟨tp, f, tt, t, fl, rfl, s4 _ _ q3, s4 _ _ (s3 _ _ q2), kp.same s14, hd, does⟩⟩
/-- the zone that no net has, the entry in it -/
def zz12 : Str := "zzzzzzzzzzzz"
theorem zz_reads : RdW (some 30) (words "zoned -5 to 5 zzzzzzzzzzzz") "zoned" (-5) 5 (some zz12) := by
  have e : (mkT "zoned" (-5) 5 (some zz12) : Str) = "zoned -5 to 5 zzzzzzzzzzzz" := by decide +kernel
  have e30 : (10 : Nat) ^ 30 = 1000000000000000000000000000000 := by decide +kernel
  rw [← e]
  refine mk_reads (by decide +kernel) (by simp) (fits_of (by rw [e30]; decide)) (fits_of (by rw [e30]; decide)) (by decide) fun z hz => ?_
  cases hz
  refine ⟨fun e => absurd (congrArg List.length e) (by decide +kernel), by decide +kernel, fun c hc => ?_⟩
  have : c = 122 := by
    have h : tl zz12 = List.replicate 12 122 := by decide +kernel
    rw [h] at hc
    exact List.eq_of_mem_replicate hc
  omega
theorem isP_names {N : DNet} (ok : DOk N) (z : Str) : isP (finOf N) z = decide (z ∈ N.names) := by
  unfold isP
  by_cases m : z ∈ N.names
  · obtain ⟨h, oh, k⟩ := known_of ok m
    rw [k.hs, decide_eq_true m]
    rfl
  · rw [decide_eq_false m]
    cases e : getS (finOf N).hs z with
    | none => rfl
    | some h =>
      have e2 : (z, h) ∈ N.rows.map homeOf := getS_mem e
      obtain ⟨r, hr, e3⟩ := List.mem_map.mp e2
      exact absurd (List.mem_map.mpr ⟨r, hr, congrArg Prod.fst e3⟩) m
theorem isZ_names {N : DNet} (z : Str) : isZ (finOf N) z = decide (z ∈ N.told.map Prod.fst) := by
  unfold isZ
  show (getS N.told z).isSome = _
  by_cases m : z ∈ N.told.map Prod.fst
  · rw [decide_eq_true m]
    obtain ⟨x, hx, e⟩ := List.mem_map.mp m
    unfold getS
    cases q : N.told.find? fun y => decide (y.1 = z) with
    | some y => rfl
    | none => exact absurd (decide_eq_true e) (List.find?_eq_none.mp q x hx)
  · rw [decide_eq_false m]
    cases e : getS N.told z with
    | none => rfl
    | some o => exact absurd (List.mem_map.mpr ⟨_, getS_mem e, rfl⟩) m
theorem tabs_but {T : List (Addr × Str)} {d l : Addr} {a : Int} {H H' : Hp} (p : Pen H d l a) (b : But d H H') (h : Tabs T H) : Tabs T H' := by
  obtain ⟨cs, bb, e1, _⟩ := p
  intro q hq
  obtain ⟨ps, h1, h2, h3⟩ := h q hq
  refine ⟨ps, b _ _ h1 (fun e => by rw [e, e1] at h1; cases h1), h2, fun pos cv hc => ?_⟩
  obtain ⟨c, g1, g2⟩ := h3 pos cv hc
  exact ⟨c, g1, b _ _ g2 (fun e => by rw [e, e1] at g2; cases g2)⟩
def spLRef (K : PySem.W.Frag) (Cn : Addr) : Sp := fun vs H Q _ => ∃ (d l x e : Addr) (a0 : Int) (N : DNet) (p k : Str) (fi la : Int) (o : Option Str), vs = [.ref d, .ref x, .str p, .ref e] ∧ Pen H d l a0 ∧ a0 ≤ 80000 ∧ NetAt Cn x H (finOf N) ∧ DOk N ∧ p ∈ N.names ∧
  E0k (finOf N) k o fi la ∧ H e = some (.tup [.str k, .int fi, .int la, oS o]) ∧ Tabs (LT K) H ∧ ∀ a1 H1 H', a0 ≤ a1 → a1 ≤ a0 + 1 → Pen H1 d l a1 → But d H H1 → ExtN H1 H' → Tabs (LT K) H' → Q (.bl true) H'
section
variable {P : Program} {w : World} {K : PySem.W.Frag} {mg : Str → Option Value} {base : Heap} {f : Addr} {fd : FuncData}
structure DLRef (P : Program) (w : World) (K : PySem.W.Frag) (mg : Str → Option Value) (base : Heap) (CB CP CZ : Addr) : Prop extends DOf P w K mg base CB where
  law_draw : Df P w K mg base CX0 1 "_law_draw" ["_law_pen_here", "_law_many"] spDraw
  law_pick : Df P w K mg base CX0 2 "_law_pick" ["_law_pen_here", "_law_some"] (spPick K)
  law_entry_text : Df P w K mg base CX0 1 "_law_entry_text" ["_law_entry"] (spTxt K)
  shownE : Df P w K mg base (L2.CX P w) 8 "shown" ["net", "p", "entry"] (spKnownE (He.ga K "Net") (He.ga K "Entry") CP CZ)
  clockE : Df P w K mg base (L2.CX P w) 8 "clock" ["net", "p", "entry"] (spKnownE (He.ga K "Net") (He.ga K "Entry") CP CZ)
  met : ∃ fdg, Gm K mg "_law_met" i__law_met (He.ga K "_law_met") fdg
  all : mg "all" = none
theorem scRefused : FnScope ["_law_pen_here", "_law_net_here", "_law_p", "_law_entry", "_law_rows", "_law_held", "_law_lost", "_law_odd", "_law_call", "_law_told"] ["_law_pen_here", "_law_net_here", "_law_p", "_law_entry"] (defScope (top i__law_refused)) := ⟨rfl, rfl, rfl, by decide +kernel, rfl, by decide +kernel, by decide +kernel⟩
theorem ok_lref {CB CP CZ : Addr} (F : FnG K "_law_refused" i__law_refused (He.fAd K ("_law_refused", none)) fd) (T : Tx K mg) (BP : Er P w K mg base "NoProgram" "name" CP) (BZ : Er P w K mg base "NoZone" "name" CZ) (M : Tm K mg CP CZ) (D : DLRef P w K mg base CB CP CZ)
    (TB : TabB base mg (He.cT K ("_law_refused", none)).1 (He.cT K ("_law_refused", none)).2) : FnOk P w K mg base CX0 12 (He.fAd K ("_law_refused", none)) fd ["_law_pen_here", "_law_net_here", "_law_p", "_law_entry"] (spLRef K (He.ga K "Net")) := by
  refine funD_okL F scRefused (fun vs H Q E h => ?_) (fun cdv A outer s H vs Q E ecd hr h => ?_)
  · obtain ⟨d, l, x, e, a0, N, p, kd, fi, la, o, rfl, _⟩ := h
    rfl
  · obtain ⟨d, l, x, e, a0, N, p, kd, fi, la, o, rfl, hp, a8, hX, ok, pin, h0, heq, tabs, k⟩ := h
    obtain ⟨fdI, GI, _, ds, rE, Bent⟩ := D.ini
    obtain ⟨fdg, met⟩ := D.met
    have huT : ∀ p ∈ LT K, p.1 = (He.cT K ("_law_refused", none)).2 → p.2 = ("_law_refused" : Str) ++ ".<locals>." ++ "<lambda>" := fun p hp _ => by rw [List.mem_singleton.mp hp]
    refine ⟨_, PSs.nox (pss_cons (ps_set (i := 7) scRefused.nd rfl (Or.inr rfl) (pe_cd D.law_pick (hr.mono (by decide)) pass0 (pa_cons (pv 0) (pa_cons (pe_lst (pa_cons pe_non (pa_cons pe_int (pa_cons pe_str (pa_cons pe_str (pa_cons (pe_tup (pa_cons pe_str pa_nil)) (pa_cons (pe_lst (pa_cons pe_str pa_nil)) (pa_cons pe_str (pa_cons pe_bl pa_nil))))))))) pa_nil))))
        (pss_cons (ps_asg (pe_tup (pa_cons (pe_make (E := fun _ _ _ => False) D.mkE GI (hr.mono (by decide)) rfl T.Entry Bent rE passF (pa_cons (pe_cd D.law_entry_text (hr.mono (by decide)) pass0 (pa_cons (pv 3) pa_nil)) pa_nil)) (pa_cons (pe_make (E := fun _ _ _ => False) D.mkE GI (hr.mono (by decide)) rfl T.Entry Bent rE passF (pa_cons pe_str pa_nil)) pa_nil))) (pg_tup rfl (pgs_cons (pg_name (i := 5) scRefused.nd rfl (Or.inr rfl)) (pgs_cons (pg_name (i := 6) scRefused.nd rfl (Or.inr rfl)) pgs_nil))))
        (pss_cons (ps_set (i := 4) scRefused.nd rfl (Or.inl rfl) (pe_lst (pa_cons (pe_tup (pa_cons (pe_keep (T := LT K) (k := 8) TB ecd List.mem_cons_self huT (lamS_by (by show lamSB (defScope (top i__law_refused)) _ = true; decide +kernel)) rfl (fun _ _ _ _ _ => rfl) (fun A outer s H E f c' hr' => pe_cd D.shownE hr' (passes_call (takes_of rfl rfl rfl rfl) (fun _ _ _ _ h => h)) (pa_cons (pv 1) (pa_cons (pv 7) (pa_cons (pv 5) pa_nil))))) (pa_cons (pe_tup (pa_cons pe_str (pa_cons (pv 7) (pa_cons pe_bl pa_nil)))) pa_nil))) pa_nil)))
        (pss_cons (ps_expr (pe_bm PySem.F.plainAttrs_list PySem.F.slot_list_append PySem.F.type_list_append mt_append (pv 4) (pa_cons (pe_tup (pa_cons (pe_keep (T := LT K) (k := 8) TB ecd List.mem_cons_self huT (lamS_by (by show lamSB (defScope (top i__law_refused)) _ = true; decide +kernel)) rfl (fun _ _ _ _ _ => rfl) (fun A outer s H E f c' hr' => pe_cd D.clockE hr' (passes_call (takes_of rfl rfl rfl rfl) (fun _ _ _ _ h => h)) (pa_cons (pv 1) (pa_cons (pv 7) (pa_cons (pv 6) pa_nil))))) (pa_cons (pe_tup (pa_cons pe_str (pa_cons (pv 7) (pa_cons pe_bl pa_nil)))) pa_nil))) pa_nil)))
        (pss_cons (ps_expr (pe_bm PySem.F.plainAttrs_list PySem.F.slot_list_append PySem.F.type_list_append mt_append (pv 4) (pa_cons (pe_tup (pa_cons (pe_keep (T := LT K) (k := 8) TB ecd List.mem_cons_self huT (lamS_by (by show lamSB (defScope (top i__law_refused)) _ = true; decide +kernel)) rfl (fun _ _ _ _ _ => rfl) (fun A outer s H E f c' hr' => pe_cd D.shownE hr' (passes_call (takes_of rfl rfl rfl rfl) (fun _ _ _ _ h => h)) (pa_cons (pv 1) (pa_cons (pv 7) (pa_cons (pv 6) pa_nil))))) (pa_cons (pe_tup (pa_cons pe_str (pa_cons (pv 7) (pa_cons pe_bl pa_nil)))) pa_nil))) pa_nil)))
        (pss_cons (ps_expr (pe_bm PySem.F.plainAttrs_list PySem.F.slot_list_append PySem.F.type_list_append mt_append (pv 4) (pa_cons (pe_tup (pa_cons (pe_keep (T := LT K) (k := 8) TB ecd List.mem_cons_self huT (lamS_by (by show lamSB (defScope (top i__law_refused)) _ = true; decide +kernel)) rfl (fun _ _ _ _ _ => rfl) (fun A outer s H E f c' hr' => pe_cd D.clockE hr' (passes_call (takes_of rfl rfl rfl rfl) (fun _ _ _ _ h => h)) (pa_cons (pv 1) (pa_cons (pv 7) (pa_cons (pv 5) pa_nil))))) (pa_cons (pe_tup (pa_cons pe_str (pa_cons (pv 7) (pa_cons pe_bl pa_nil)))) pa_nil))) pa_nil)))
        (pss_cons (ps_expr (pe_bm PySem.F.plainAttrs_list PySem.F.slot_list_append PySem.F.type_list_append mt_append (pv 4) (pa_cons (pe_tup (pa_cons (pe_keep (T := LT K) (k := 8) TB ecd List.mem_cons_self huT (lamS_by (by show lamSB (defScope (top i__law_refused)) _ = true; decide +kernel)) rfl (fun _ _ _ _ _ => rfl) (fun A outer s H E f c' hr' => pe_cd D.shownE hr' (passes_call (takes_of rfl rfl rfl rfl) (fun _ _ _ _ h => h)) (pa_cons (pv 1) (pa_cons (pv 2) (pa_cons (pv 6) pa_nil))))) (pa_cons (pe_tup (pa_cons pe_str (pa_cons pe_str (pa_cons pe_bl pa_nil)))) pa_nil))) pa_nil)))
        (pss_cons (ps_expr (pe_bm PySem.F.plainAttrs_list PySem.F.slot_list_append PySem.F.type_list_append mt_append (pv 4) (pa_cons (pe_tup (pa_cons (pe_keep (T := LT K) (k := 8) TB ecd List.mem_cons_self huT (lamS_by (by show lamSB (defScope (top i__law_refused)) _ = true; decide +kernel)) rfl (fun _ _ _ _ _ => rfl) (fun A outer s H E f c' hr' => pe_cd D.clockE hr' (passes_call (takes_of rfl rfl rfl rfl) (fun _ _ _ _ h => h)) (pa_cons (pv 1) (pa_cons (pv 2) (pa_cons (pv 6) pa_nil))))) (pa_cons (pe_tup (pa_cons pe_str (pa_cons pe_str (pa_cons pe_bl pa_nil)))) pa_nil))) pa_nil)))
        (pss_one (ps_ret (pe_callB (cr_all rfl) (by rfl) D.all (by decide +kernel) (pa_cons (pe_lcK (own := [("_law_call", 8), ("_law_told", 9)]) (g := gTup K 2 (gCons (gName 8) (gCons (gName 9) gNil))) rfl scRefused.nd (pi_list (pv 4)) (blkOk_by (own := [("_law_call", 8), ("_law_told", 9)]) (N := ["_law_pen_here", "_law_net_here", "_law_p", "_law_entry", "_law_rows", "_law_held", "_law_lost", "_law_odd", "_law_call", "_law_told"]) (sc := defScope (top i__law_refused)) (by decide +kernel)) (fun _ _ _ _ _ => (pg_tup rfl (pgs_cons (pg_name (i := 8) scRefused.nd rfl (Or.inl rfl) (Or.inr rfl)) (pgs_cons (pg_name (i := 9) scRefused.nd rfl (Or.inl rfl) (Or.inr rfl)) pgs_nil)))) (fun _ _ _ _ _ _ _ B => (pe_cmpR (r := rEqD K) (op_eqD hr.units) (pe_metK (k := 8) (i := 8) B rfl met.F rfl met.g BP BZ M T.isinstance (hr.mono (by decide)) rfl (.inl rfl)) (pv 9) (nomark _)))) pa_nil)))))))))))), ?_⟩
    have val := h0.val
    have lk5 := ks_len val.kin
    have nmL : ∀ n, o = some n → n.length ≤ 100 := fun n hn => by have := name_len (val.nm n hn); omega
    obtain ⟨sma, smb⟩ := h0.sm
    have ml := mk_len val sma smb
    obtain ⟨hm0, oh0, kpx⟩ := known_of ok pin
    -- the odd value
    refine ⟨_, rfl, (by show 1 ≤ sizeLine; decide), fun ta hta => ⟨(by show 1 ≤ sizeLine; decide), fun tl' htl => ⟨(by show 8 ≤ sizeLine; decide), fun lo hlo => ?_⟩⟩⟩
    have s1 := same_upd (o := .tup [.str "a"]) hta
    have taq : upd H ta (.tup [.str "a"]) ta = some (.tup [.str "a"]) := upd_same
    generalize upd H ta (.tup [.str "a"]) = H1 at htl hlo s1 taq ⊢
    have s2 := same_upd (o := .lst [.str "a"]) htl
    have tlq : upd H1 tl' (.lst [.str "a"]) tl' = some (.lst [.str "a"]) := upd_same
    generalize upd H1 tl' (.lst [.str "a"]) = H2 at hlo s2 tlq ⊢
    have s3 := same_upd (o := .lst [.non, .int 5, .str "", .str "Q", .ref ta, .ref tl', .str "zzzzzzzzzzzz", .bl true]) hlo
    have loq : upd H2 lo (.lst [.non, .int 5, .str "", .str "Q", .ref ta, .ref tl', .str "zzzzzzzzzzzz", .bl true]) lo = some (.lst [.non, .int 5, .str "", .str "Q", .ref ta, .ref tl', .str "zzzzzzzzzzzz", .bl true]) := upd_same
    generalize upd H2 lo (.lst [.non, .int 5, .str "", .str "Q", .ref ta, .ref tl', .str "zzzzzzzzzzzz", .bl true]) = H3 at s3 loq ⊢
    have s13 := (s1.trans s2).trans s3
    have p3 := hp.same s13
    refine ⟨d, l, a0, _, rfl, p3, by omega, .inl ⟨lo, _, rfl, p3.dne loq, loq, List.cons_ne_nil _ _, (by show 8 ≤ 1000; decide), fun vo a1 H4 hvo g1 g2 p4 b4 => ?_⟩⟩
    have tb4 := tabs_but p3 b4 (Tabs.ext tabs s13)
    have hX4 := (hX.same s13).but p3 b4
    have he4 := keepT p3 b4 (s13 _ _ heq)
    have ta4 := keepT p3 b4 (s3 _ _ (s2 _ _ taq))
    have tl4 := keepL p3 b4 (s3 _ _ tlq)
    have nn : ∀ z : Str, ¬ (nameL (tl z) ∧ (tl z).length ≤ 11) → isP (finOf N) z = false := fun z hz => by
      rw [isP_names ok z]
      refine decide_eq_false fun m => hz ?_
      obtain ⟨r, hr, rfl⟩ := List.mem_map.mp m
      exact ⟨name_of ok m, (ok.row r hr).n11⟩
    have c0 : ¬ (nameL (tl ("" : Str)) ∧ (tl ("" : Str)).length ≤ 11) := fun z => z.1.1 rfl
    have c1 : ¬ (nameL (tl ("Q" : Str)) ∧ (tl ("Q" : Str)).length ≤ 11) := fun z => by
      have := z.1.2.2 81 (by decide +kernel)
      omega
    have c2 : ¬ (nameL (tl ("zzzzzzzzzzzz" : Str)) ∧ (tl ("zzzzzzzzzzzz" : Str)).length ≤ 11) := fun z => absurd z.2 (by decide +kernel)
    obtain ⟨odd4, ⟨Dv, mem4⟩⟩ : OddV (isP (finOf N)) H4 vo ∧ ∃ D, MemD H4 vo D := by
      simp only [List.mem_cons, List.not_mem_nil, or_false] at hvo
      rcases hvo with rfl | rfl | rfl | rfl | rfl | rfl | rfl | rfl
      · exact ⟨.non, _, .non⟩
      · exact ⟨.int _, _, .int _⟩
      · exact ⟨.str _ (nn _ c0), _, .str _ (by decide +kernel)⟩
      · exact ⟨.str _ (nn _ c1), _, .str _ (by decide +kernel)⟩
      · exact ⟨.tup ta4, _, .tup _ _ (by decide +kernel) ta4⟩
      · exact ⟨.lst tl4, _, .lst _ _ (by decide +kernel) tl4⟩
      · exact ⟨.str _ (nn _ c2), _, .str _ (by decide +kernel)⟩
      · exact ⟨.bl _, _, .bl _⟩
    -- the two entries
    refine ⟨_, rfl, e, kd, fi, la, o, rfl, SqT.of he4, by omega, sma, smb, nmL, fun y dy ny ndy nyd => ⟨y, dy, .str _, some 30, rfl, upd_same, .inl ⟨_, rfl, by omega, fun k' a' b' o' rd H5 kp en => ⟨rfl, ?_⟩, fun no => absurd h0.rd (no _ _ _ _)⟩⟩⟩
    obtain ⟨rfl, rfl, rfl, rfl⟩ := rd.uniq h0.rd
    have s5 : Same H4 H5 := fun c u q => kp c u (by rw [upd_ne (ne_of_none q ny), upd_ne (ne_of_none q ndy)]; exact q) (ne_of_none q ny)
    obtain ⟨zt, en5⟩ : ∃ zt, EntA (He.ga K "Entry") y zt k' a' b' o' H5 := ⟨_, en⟩
    refine fun y2 dy2 ny2 ndy2 nyd2 => ⟨y2, dy2, .str _, some 30, rfl, upd_same, .inl ⟨_, rfl, (by decide +kernel), fun k2 a2 b2 o2 rd2 H6 kp2 en2 => ⟨rfl, (by show 2 ≤ sizeLine; decide), fun tt htt => ?_⟩, fun no => absurd zz_reads (no _ _ _ _)⟩⟩
    obtain ⟨rfl, rfl, rfl, rfl⟩ := rd2.uniq zz_reads
    have s6 : Same H5 H6 := fun c u q => kp2 c u (by rw [upd_ne (ne_of_none q ny2), upd_ne (ne_of_none q ndy2)]; exact q) (ne_of_none q ny2)
    obtain ⟨zt2, en6⟩ : ∃ zt, EntA (He.ga K "Entry") y2 zt "zoned" (-5) 5 (some zz12) H6 := ⟨_, en2⟩
    have s7 := same_upd (o := .tup [.ref y, .ref y2]) htt
    have ttq : upd H6 tt (.tup [.ref y, .ref y2]) tt = some (.tup [.ref y, .ref y2]) := upd_same
    generalize upd H6 tt (.tup [.ref y, .ref y2]) = Hb at s7 ttq ⊢
    have s47 := (s5.trans s6).trans s7
    have hXb := hX4.same s47
    have enb := (en5.same s6).same s7
    have en2b := en6.same s7
    have oddb := odd4.same fun a o q _ => s47 a o q
    have memb := mem4.extN (ExtN.of s47)
    have tbb := Tabs.ext tb4 s47
    refine ⟨tt, _, rfl, SqT.of ttq, rfl, _, _, rfl, _, _, rfl, rfl, ?_⟩
    obtain ⟨W, eW⟩ : ∃ W : L2.St → Hp → Prop, W = fun σ H' => ∃ x4 x8 x9, σ = [some (.ref d), some (.ref x), some (.str p), some (.ref e), x4, some (.ref y), some (.ref y2), some vo, x8, x9] ∧ NetAt (He.ga K "Net") x H' (finOf N) ∧ EntA (He.ga K "Entry") y zt k' a' b' o' H' ∧ EntA (He.ga K "Entry") y2 zt2 "zoned" (-5) 5 (some zz12) H' ∧ OddV (isP (finOf N)) H' vo := ⟨_, rfl⟩
    have hd1 : ∃ D, FltD Hb (.prog vo) D := ⟨_, .prog memb⟩
    have hd2 : ∃ D, FltD Hb (.zone zz12) D := ⟨_, .zone (by decide +kernel)⟩
    have nz : isZ (finOf N) zz12 = false := by
      rw [isZ_names]
      refine decide_eq_false fun m => ?_
      have := ok.z11 _ m
      exact absurd this (by decide +kernel)
    have oh : ∀ E σ H' Q, W σ H' → RaiseF E CP CZ H' (.prog vo) → tCall (spKnownE (He.ga K "Net") (He.ga K "Entry") CP CZ) [] E (tCons (tVar 1) (tCons (tVar 7) (tCons (tVar 5) tNil))) σ H' Q := fun E σ H' Q hW rz => by
      rw [eW] at hW
      obtain ⟨x4, x8, x9, rfl, w1, w2, w3, w4⟩ := hW
      exact ⟨_, rfl, _, rfl, _, rfl, x, y, finOf N, vo, zt, k', a', b', o', .prog vo, rfl, w1, w2, .prog w4, rz⟩
    have ol : ∀ E σ H' Q, W σ H' → RaiseF E CP CZ H' (.prog vo) → tCall (spKnownE (He.ga K "Net") (He.ga K "Entry") CP CZ) [] E (tCons (tVar 1) (tCons (tVar 7) (tCons (tVar 6) tNil))) σ H' Q := fun E σ H' Q hW rz => by
      rw [eW] at hW
      obtain ⟨x4, x8, x9, rfl, w1, w2, w3, w4⟩ := hW
      exact ⟨_, rfl, _, rfl, _, rfl, x, y2, finOf N, vo, zt2, _, _, _, _, .prog vo, rfl, w1, w3, .prog w4, rz⟩
    have pl : ∀ E σ H' Q, W σ H' → RaiseF E CP CZ H' (.zone zz12) → tCall (spKnownE (He.ga K "Net") (He.ga K "Entry") CP CZ) [] E (tCons (tVar 1) (tCons (tVar 2) (tCons (tVar 6) tNil))) σ H' Q := fun E σ H' Q hW rz => by
      rw [eW] at hW
      obtain ⟨x4, x8, x9, rfl, w1, w2, w3, w4⟩ := hW
      exact ⟨_, rfl, _, rfl, _, rfl, x, y2, finOf N, .str p, zt2, _, _, _, _, .zone zz12, rfl, w1, w3, .zone p hm0 zz12 rfl kpx.hs rfl rfl nz, rz⟩
    refine ⟨tbb, fun f1 J1 ex1 dm1 tb1 nf1 kp1 => ⟨_, rfl, (by show 3 ≤ sizeLine; decide), fun tt1 htt1 => ⟨(by show 2 ≤ sizeLine; decide), fun tp1 htp1 => ⟨(by show 1 ≤ sizeLine; decide), fun r hr1 => ?_⟩⟩⟩⟩
    have nb : Hb r = none := dm1 _ (Same.free (same_upd (o := .tup (fltV (.prog vo))) htt1) (Same.free (same_upd htp1) hr1))
    have R1 := RowsK.one (fl := .prog vo) (W := W) ex1 tb1 kp1 htt1 htp1 hr1 nb hd1 oh
    change RowsK K _ W CP CZ Hb (upd (upd (upd J1 tt1 (.tup [.str "program", vo, .bl true])) tp1 (.tup [.ref f1, .ref tt1])) r (.lst [.ref tp1])) r [.ref tp1] at R1
    generalize upd (upd (upd J1 tt1 (.tup [.str "program", vo, .bl true])) tp1 (.tup [.ref f1, .ref tt1])) r (.lst [.ref tp1]) = G1 at R1 ⊢
    dsimp only [gName]
    refine ⟨_, rfl, .inl ⟨rfl, _, SqL.of R1.at_⟩, R1.tabs, fun f2 J2 ex2 dm2 tb2 nf2 kp2 => ⟨_, rfl, (by show 3 ≤ sizeLine; decide), fun tt2 htt2 => ⟨(by show 2 ≤ sizeLine; decide), fun tp2 htp2 => ?_⟩⟩⟩
    obtain ⟨at2, R2⟩ := R1.more (fl := .prog vo) ex2 tb2 kp2 htt2 htp2 hd1 ol
    refine ⟨r, _, _, rfl, rfl, at2, (show 1 < sizeLine by rw [sizeLine_eq]; decide), ?_⟩
    change RowsK K _ W CP CZ Hb (upd (upd (upd J2 tt2 (.tup [.str "program", vo, .bl true])) tp2 (.tup [.ref f2, .ref tt2])) r (.lst ([.ref tp1] ++ [.ref tp2]))) r ([.ref tp1] ++ [.ref tp2]) at R2
    generalize upd (upd (upd J2 tt2 (.tup [.str "program", vo, .bl true])) tp2 (.tup [.ref f2, .ref tt2])) r (.lst ([.ref tp1] ++ [.ref tp2])) = G2 at R2 ⊢
    clear at2
    refine ⟨_, rfl, .inl ⟨rfl, _, SqL.of R2.at_⟩, R2.tabs, fun f3 J3 ex3 dm3 tb3 nf3 kp3 => ⟨_, rfl, (by show 3 ≤ sizeLine; decide), fun tt3 htt3 => ⟨(by show 2 ≤ sizeLine; decide), fun tp3 htp3 => ?_⟩⟩⟩
    obtain ⟨at3, R3⟩ := R2.more (fl := .prog vo) ex3 tb3 kp3 htt3 htp3 hd1 ol
    refine ⟨r, _, _, rfl, rfl, at3, (show 2 < sizeLine by rw [sizeLine_eq]; decide), ?_⟩
    change RowsK K _ W CP CZ Hb (upd (upd (upd J3 tt3 (.tup [.str "program", vo, .bl true])) tp3 (.tup [.ref f3, .ref tt3])) r (.lst (([.ref tp1] ++ [.ref tp2]) ++ [.ref tp3]))) r (([.ref tp1] ++ [.ref tp2]) ++ [.ref tp3]) at R3
    generalize upd (upd (upd J3 tt3 (.tup [.str "program", vo, .bl true])) tp3 (.tup [.ref f3, .ref tt3])) r (.lst (([.ref tp1] ++ [.ref tp2]) ++ [.ref tp3])) = G3 at R3 ⊢
    clear at3
    refine ⟨_, rfl, .inl ⟨rfl, _, SqL.of R3.at_⟩, R3.tabs, fun f4 J4 ex4 dm4 tb4 nf4 kp4 => ⟨_, rfl, (by show 3 ≤ sizeLine; decide), fun tt4 htt4 => ⟨(by show 2 ≤ sizeLine; decide), fun tp4 htp4 => ?_⟩⟩⟩
    obtain ⟨at4, R4⟩ := R3.more (fl := .prog vo) ex4 tb4 kp4 htt4 htp4 hd1 oh
    refine ⟨r, _, _, rfl, rfl, at4, (show 3 < sizeLine by rw [sizeLine_eq]; decide), ?_⟩
    change RowsK K _ W CP CZ Hb (upd (upd (upd J4 tt4 (.tup [.str "program", vo, .bl true])) tp4 (.tup [.ref f4, .ref tt4])) r (.lst ((([.ref tp1] ++ [.ref tp2]) ++ [.ref tp3]) ++ [.ref tp4]))) r ((([.ref tp1] ++ [.ref tp2]) ++ [.ref tp3]) ++ [.ref tp4]) at R4
    generalize upd (upd (upd J4 tt4 (.tup [.str "program", vo, .bl true])) tp4 (.tup [.ref f4, .ref tt4])) r (.lst ((([.ref tp1] ++ [.ref tp2]) ++ [.ref tp3]) ++ [.ref tp4])) = G4 at R4 ⊢
    clear at4
    refine ⟨_, rfl, .inl ⟨rfl, _, SqL.of R4.at_⟩, R4.tabs, fun f5 J5 ex5 dm5 tb5 nf5 kp5 => ⟨(by show 3 ≤ sizeLine; decide), fun tt5 htt5 => ⟨(by show 2 ≤ sizeLine; decide), fun tp5 htp5 => ?_⟩⟩⟩
    obtain ⟨at5, R5⟩ := R4.more (fl := .zone zz12) ex5 tb5 kp5 htt5 htp5 hd2 pl
    refine ⟨r, _, _, rfl, rfl, at5, (show 4 < sizeLine by rw [sizeLine_eq]; decide), ?_⟩
    change RowsK K _ W CP CZ Hb (upd (upd (upd J5 tt5 (.tup [.str "zone", .str "zzzzzzzzzzzz", .bl true])) tp5 (.tup [.ref f5, .ref tt5])) r (.lst (((([.ref tp1] ++ [.ref tp2]) ++ [.ref tp3]) ++ [.ref tp4]) ++ [.ref tp5]))) r (((([.ref tp1] ++ [.ref tp2]) ++ [.ref tp3]) ++ [.ref tp4]) ++ [.ref tp5]) at R5
    generalize upd (upd (upd J5 tt5 (.tup [.str "zone", .str "zzzzzzzzzzzz", .bl true])) tp5 (.tup [.ref f5, .ref tt5])) r (.lst (((([.ref tp1] ++ [.ref tp2]) ++ [.ref tp3]) ++ [.ref tp4]) ++ [.ref tp5])) = G5 at R5 ⊢
    clear at5
    refine ⟨_, rfl, .inl ⟨rfl, _, SqL.of R5.at_⟩, R5.tabs, fun f6 J6 ex6 dm6 tb6 nf6 kp6 => ⟨(by show 3 ≤ sizeLine; decide), fun tt6 htt6 => ⟨(by show 2 ≤ sizeLine; decide), fun tp6 htp6 => ?_⟩⟩⟩
    obtain ⟨at6, R6⟩ := R5.more (fl := .zone zz12) ex6 tb6 kp6 htt6 htp6 hd2 pl
    refine ⟨r, _, _, rfl, rfl, at6, (show 5 < sizeLine by rw [sizeLine_eq]; decide), ?_⟩
    change RowsK K _ W CP CZ Hb (upd (upd (upd J6 tt6 (.tup [.str "zone", .str "zzzzzzzzzzzz", .bl true])) tp6 (.tup [.ref f6, .ref tt6])) r (.lst ((((([.ref tp1] ++ [.ref tp2]) ++ [.ref tp3]) ++ [.ref tp4]) ++ [.ref tp5]) ++ [.ref tp6]))) r ((((([.ref tp1] ++ [.ref tp2]) ++ [.ref tp3]) ++ [.ref tp4]) ++ [.ref tp5]) ++ [.ref tp6]) at R6
    generalize upd (upd (upd J6 tt6 (.tup [.str "zone", .str "zzzzzzzzzzzz", .bl true])) tp6 (.tup [.ref f6, .ref tt6])) r (.lst ((((([.ref tp1] ++ [.ref tp2]) ++ [.ref tp3]) ++ [.ref tp4]) ++ [.ref tp5]) ++ [.ref tp6])) = G6 at R6 ⊢
    clear at6
    have pb := p4.same s47
    have bb := ((But.same s13).trans b4).trans (But.same s47)
    refine ⟨_, rfl, r, rfl, ⟨_, SqL.of R6.at_⟩, fun D hD => lc_list (fun i H' => Same G6 H' ∧ H' D = some (.lst (List.replicate i (.bl true)))) ⟨same_upd hD, upd_same⟩ (fun i H' _ q => SqL.of (q.1 _ _ R6.at_)) ?_ ?_⟩
    · rintro i v Ha hi ⟨sa, qa⟩
      have li := (List.getElem?_eq_some_iff.mp hi).1
      obtain ⟨tp, f, tt, t, fl, rfl, q1, q2, kp, ⟨Df, hDf⟩, does⟩ := R6.rows v (List.mem_of_getElem? hi)
      have exA : ExtN Hb Ha := R6.ext.trans (ExtN.of sa)
      refine ⟨tp, _, rfl, SqT.of (sa _ _ q1), rfl, _, _, rfl, _, _, rfl, rfl, ?_⟩
      refine ⟨rfl, iteT (B := Same G6 Ha ∧ Ha D = some (.lst (List.replicate (i + 1) (.bl true)))) ?_⟩
      refine ⟨f, t, rfl, kp.same sa, fun o ho E ans => ⟨ho, does E _ _ _ ?_ (ans _ fl fun pa H' s' hp hq => ?_)⟩⟩
      · rw [eW]
        exact ⟨_, _, _, rfl, hXb.extN exA, enb.extN exA, en2b.extN exA, oddb.same fun a o q n => exA a o q n⟩
      · have exB : ExtN Hb H' := exA.trans (ExtN.of s')
        have hDB := hDf.extN exB
        refine ⟨_, rfl, Df, Df, hDB.dp hq, hDB.dp (s' _ _ (sa _ _ q2)), hDB.shaped, hDB.shaped, _, s' _ _ qa, (by rw [List.length_replicate, sizeLine_eq]; exact Nat.lt_trans li (show 6 < 16777216 by decide)), fun c o z => ?_, ?_⟩
        · rw [upd_ne (ne_of_none z hD)]
          exact s' _ _ (sa _ _ z)
        · rw [PySem.SeqAt.eqv_refl _ hDB.lay.1, upd_same, List.replicate_succ']
    · rintro Hz ⟨sz, qz⟩
      refine ⟨D, List.replicate 6 true, rfl, SqL.of qz, ?_⟩
      exact k a1 Hb Hz (by omega) (by omega) pb bb (R6.ext.trans (ExtN.of sz)) (Tabs.ext R6.tabs sz)
end
end Wd
end
section
set_option Elab.async false
set_option linter.all false
set_option maxRecDepth 100000
set_option maxHeartbeats 4000000
set_option pp.maxSteps 900
/-! ### the law -/
namespace Wd
open PySem PySem.Spec PyProof.Rows L2 Wt TL NumText LamX
theorem lines_fin {N : DNet} (ok : DOk N) : linesS (finOf N) = linesOf N := by
  have rl : ∀ r ∈ N.rows, ∀ ks : List Str, (∀ k ∈ ks, k ∈ KS) → ruleLsS (finOf N).rs r.name ks = ruleLs r ks := by
    intro r hr ks
    induction ks with
    | nil => intro _; rfl
    | cons k ks ih =>
      intro h
      have e := ruleS_fin ok hr (h k List.mem_cons_self)
      have ih' := ih fun k' hk' => h k' (List.mem_cons_of_mem _ hk')
      unfold ruleLsS ruleLs at ih' ⊢
      rw [List.flatMap_cons, List.flatMap_cons, ih', e]
  have rows : ∀ rows : List DRow, (∀ r ∈ rows, r ∈ N.rows) → (rows.map homeOf).flatMap (progS (finOf N)) = rows.flatMap rowLs := by
    intro rows
    induction rows with
    | nil => intro _; rfl
    | cons r rows ih =>
      intro h
      rw [List.map_cons, List.flatMap_cons, List.flatMap_cons, ih fun r' h' => h r' (List.mem_cons_of_mem _ h')]
      congr 1
      show ("program " ++ r.name ++ " at " ++ r.home) :: ruleLsS (finOf N).rs r.name KS = progL r :: ruleLs r KS
      rw [rl r (h r List.mem_cons_self) KS fun _ h => h]
      rfl
  unfold linesS linesOf
  show N.told.map zoneL ++ ((N.rows.map homeOf).flatMap (progS (finOf N)) ++ N.routes.map routeL) = _
  rw [rows N.rows fun _ h => h]
theorem nf_text {a1 a2 a3 t1 t2 t3 a4 : Addr} {z : Str} : (nFs a1 a2 a3 t1 t2 t3 a4 z).lookup ("text" : Str) = some (.str z) := by
  unfold nFs
  rw [lookup_putF, if_pos rfl]
def spLawT (K : PySem.W.Frag) : Sp := fun vs H Q _ => ∃ (a : Addr) (ns : List Int), vs = [.ref a] ∧ SqL K H a (ns.map V.int) ∧ ns.length ≤ 63 ∧ Tabs (LT K) H ∧ ∀ H', Q (.bl true) H'
section
variable {P : Program} {w : World} {K : PySem.W.Frag} {mg : Str → Option Value} {base : Heap} {f : Addr} {fd : FuncData}
structure DLaw (P : Program) (w : World) (K : PySem.W.Frag) (mg : Str → Option Value) (base : Heap) (CB : Addr) : Prop extends DOf P w K mg base CB where
  law_draw : Df P w K mg base CX0 1 "_law_draw" ["_law_pen_here", "_law_many"] spDraw
  law_pick : Df P w K mg base CX0 2 "_law_pick" ["_law_pen_here", "_law_some"] (spPick K)
  law_pen : Df P w K mg base CX0 1 "_law_pen" ["_law_script"] (spPen K)
  law_net : Df P w K mg base CX0 6 "_law_net" ["_law_pen_here", "_law_zones", "_law_programs", "_law_routes_here", "_law_step"] spNet
  law_net_text : Df P w K mg base CX0 2 "_law_net_text" ["_law_net_here"] (spText K)
  mkN : Mk K (He.ga K "Net") (He.ma K (He.ga K "Net") "__init__")
  iniN : ∃ fd, FnOk P w K mg base CX0 10 (He.ma K (He.ga K "Net") "__init__") fd ["self", "text"] (spNInit (He.ga K "Net")) ∧ Binds K fd ["self", "text"] []
  globN : mg "Net" = some (.ref (He.ga K "Net"))
  law_names : Df P w K mg base CX0 1 "_law_names" ["_law_net_here"] spNames
  law_entry_of : Df P w K mg base CX0 4 "_law_entry_of" ["_law_pen_here", "_law_net_here", "_law_kind", "_law_step"] spEntryOf
  law_entry_text : Df P w K mg base CX0 1 "_law_entry_text" ["_law_entry"] (spTxt K)
  law_offset_of : Df P w K mg base CX0 1 "_law_offset_of" ["_law_net_here", "_law_zone"] spLOff
  law_home : Df P w K mg base CX0 1 "_law_home" ["_law_net_here", "_law_p"] spLHome
  law_shows_right : Df P w K mg base CX0 9 "_law_shows_right" ["_law_net_here", "_law_due", "_law_p", "_law_entry"] (spShowsR K (He.ga K "Net"))
  law_refused : Df P w K mg base CX0 12 "_law_refused" ["_law_pen_here", "_law_net_here", "_law_p", "_law_entry"] (spLRef K (He.ga K "Net"))
  clock : Df P w K mg base CX0 4 "clock" ["net", "p", "entry"] (spClock (He.ga K "Net") (He.ga K "Entry"))
theorem scLaw : FnScope ["_law_script", "_law_pen_here", "_law_step", "_law_due", "_law_net_here", "_law_names_here", "_law_lap", "_law_kind", "_law_entry", "_law_p", "_law_q", "_law_name", "_law_held", "_law_gap"] ["_law_script"] (defScope (top i_law)) := ⟨rfl, rfl, rfl, by decide +kernel, rfl, by decide +kernel, by decide +kernel⟩
theorem ok_law {CB : Addr} (F : FnG K "law" i_law f fd) (T : Tx K mg) (Nt : Tn K mg) (D : DLaw P w K mg base CB) : FnOk P w K mg base CX0 14 f fd ["_law_script"] (spLawT K) := by
  refine F.ok scLaw (fun vs H Q E h => ?_) (fun cdv A outer s H vs Q E hr h => ?_)
  · obtain ⟨a, ns, rfl, _⟩ := h
    rfl
  · obtain ⟨sa, ns, rfl, hs, hz, tabs, k⟩ := h
    obtain ⟨fdN, GN, bN⟩ := D.iniN
    obtain ⟨fdI, GI, _, ds, rE, Bent⟩ := D.ini
    refine ⟨_, PSs.nox (pss_cons (ps_set (i := 1) scLaw.nd rfl (Or.inl rfl) (pe_cd D.law_pen (hr.mono (by decide)) pass0 (pa_cons (pv 0) pa_nil)))
        (pss_cons (ps_set (i := 2) scLaw.nd rfl (Or.inl rfl) (pe_cd D.law_pick (hr.mono (by decide)) pass0 (pa_cons (pv 1) (pa_cons (pe_lst (pa_cons pe_int (pa_cons pe_int (pa_cons pe_int pa_nil)))) pa_nil))))
        (pss_cons (ps_set (i := 3) scLaw.nd rfl (Or.inl rfl) (pe_cd D.law_net (hr.mono (by decide)) pass0 (pa_cons (pv 1) (pa_cons (pe_op op_add pe_int (pe_cd D.law_draw (hr.mono (by decide)) pass0 (pa_cons (pv 1) (pa_cons pe_int pa_nil)))) (pa_cons (pe_op op_add pe_int (pe_cd D.law_draw (hr.mono (by decide)) pass0 (pa_cons (pv 1) (pa_cons pe_int pa_nil)))) (pa_cons (pe_cd D.law_draw (hr.mono (by decide)) pass0 (pa_cons (pv 1) (pa_cons pe_int pa_nil))) (pa_cons (pv 2) pa_nil)))))))
        (pss_cons (ps_par (i := 4) (j := 5) (by rfl) scLaw.nd rfl rfl (by decide) rfl rfl (pa_cons (pe_make D.mkN GN (hr.mono (by decide)) rfl D.globN bN .nil pass0 (pa_cons (pe_cd D.law_net_text (hr.mono (by decide)) pass0 (pa_cons (pv 3) pa_nil)) pa_nil)) (pa_cons (pe_cd D.law_names (hr.mono (by decide)) pass0 (pa_cons (pv 3) pa_nil)) pa_nil)) (by rfl))
        (pss_cons (ps_for PassesOwn.never rfl (pi_range1 (by rfl) T.range (pa_cons pe_int pa_nil)) (pg_name (i := 6) scLaw.nd rfl (Or.inl rfl)) (pss_one (ps_for PassesOwn.never rfl (pi_tup (pe_tup (pa_cons pe_str (pa_cons pe_str (pa_cons pe_str (pa_cons pe_str pa_nil)))))) (pg_name (i := 7) scLaw.nd rfl (Or.inl rfl)) (pss_cons (ps_set (i := 8) scLaw.nd rfl (Or.inl rfl) (pe_cd D.law_entry_of (hr.mono (by decide)) pass0 (pa_cons (pv 1) (pa_cons (pv 3) (pa_cons (pv 7) (pa_cons (pv 2) pa_nil))))))
        (pss_cons (ps_par (i := 9) (j := 10) (by rfl) scLaw.nd rfl rfl (by decide) rfl rfl (pa_cons (pe_cd D.law_pick (hr.mono (by decide)) pass0 (pa_cons (pv 1) (pa_cons (pv 5) pa_nil))) (pa_cons (pe_cd D.law_pick (hr.mono (by decide)) pass0 (pa_cons (pv 1) (pa_cons (pv 5) pa_nil))) pa_nil)) (by rfl))
        (pss_cons (ps_for PassesOwn.never rfl (pi_tup (pe_tup (pa_cons (pv 9) (pa_cons (pv 10) (pa_cons (pv 9) pa_nil))))) (pg_name (i := 11) scLaw.nd rfl (Or.inl rfl)) (pss_one (ps_if (pt_not (pt_val (pe_cd D.law_shows_right (hr.mono (by decide)) pass0 (pa_cons (pv 4) (pa_cons (pv 3) (pa_cons (pv 11) (pa_cons (pv 8) pa_nil))))))) (pss_one (ps_ret pe_bl)) pss_nil)))
        (pss_cons (ps_if (pt_not (pt_val (pe_cd D.law_refused (hr.mono (by decide)) pass0 (pa_cons (pv 1) (pa_cons (pv 4) (pa_cons (pv 9) (pa_cons (pv 8) pa_nil))))))) (pss_one (ps_ret pe_bl)) pss_nil)
        (pss_one (ps_if (pt_cmpR op_in_seq (pv 7) (pe_tup (pa_cons pe_str (pa_cons pe_str pa_nil))) (by rfl)) (pss_cons (ps_par (i := 12) (j := 13) (by rfl) scLaw.nd rfl rfl (by decide) rfl rfl (pa_cons (pe_make (E := fun _ _ _ => False) D.mkE GI (hr.mono (by decide)) rfl T.Entry Bent rE passF (pa_cons (pe_cd D.law_entry_text (hr.mono (by decide)) pass0 (pa_cons (pv 8) pa_nil)) pa_nil)) (pa_cons (pe_cd D.law_offset_of (hr.mono (by decide)) pass0 (pa_cons (pv 3) (pa_cons (pe_cd D.law_home (hr.mono (by decide)) pass0 (pa_cons (pv 3) (pa_cons (pv 10) pa_nil))) pa_nil))) pa_nil)) (by rfl))
        (pss_cons (ps_set (i := 13) scLaw.nd rfl (Or.inl rfl) (pe_op op_sub (pv 13) (pe_cd D.law_offset_of (hr.mono (by decide)) pass0 (pa_cons (pv 3) (pa_cons (pe_cd D.law_home (hr.mono (by decide)) pass0 (pa_cons (pv 3) (pa_cons (pv 9) pa_nil))) pa_nil)))))
        (pss_one (ps_if (pt_cmpR op_ne (pe_op op_sub (pe_ix ix_tup (pe_cd D.clock (hr.mono (by decide)) pass0 (pa_cons (pv 4) (pa_cons (pv 10) (pa_cons (pv 12) pa_nil)))) pe_int (fun _ _ => rfl)) (pe_ix ix_tup (pe_cd D.clock (hr.mono (by decide)) pass0 (pa_cons (pv 4) (pa_cons (pv 9) (pa_cons (pv 12) pa_nil)))) pe_int (fun _ _ => rfl))) (pv 13) (nomark _)) (pss_one (ps_ret pe_bl)) pss_nil)))) pss_nil)))))))))
        (pss_one (ps_ret (pe_cmpR op_eq (pe_fld (pv 4) rfl) (pe_cd D.law_net_text (hr.mono (by decide)) pass0 (pa_cons (pv 3) pa_nil)) (nomark _))))))))), ?_⟩
    refine ⟨_, rfl, sa, ns, rfl, hs, hz, fun H1 d l s1 nd nl p1 => ?_⟩
    have tb1 := (Tabs.ext tabs s1)
    refine ⟨_, rfl, (by show 3 ≤ sizeLine; decide), fun t ht => ?_⟩
    have s2 := same_upd (o := .lst [.int 1, .int 1, .int 60]) ht
    have p2 := p1.same s2
    have tb2 := (Tabs.ext tb1 s2)
    have tq : (upd H1 t (.lst [.int 1, .int 1, .int 60])) t = some (.lst [.int 1, .int 1, .int 60]) := upd_same
    generalize upd H1 t (.lst [.int 1, .int 1, .int 60]) = H2 at s2 p2 tb2 tq ⊢
    refine ⟨d, l, 0, _, rfl, p2, by decide, .inl ⟨t, _, rfl, p2.dne tq, tq, List.cons_ne_nil _ _, (by show 3 ≤ 1000; decide), fun x a3 H3 hx g1 g2 p3 b3 => ?_⟩⟩
    have tb3 := (tabs_but p2 b3 tb2)
    obtain ⟨st, rfl, st0, st1⟩ : ∃ st : Int, x = .int st ∧ 0 < st ∧ st ≤ 720 := by
      simp only [List.mem_cons, List.not_mem_nil, or_false] at hx
      rcases hx with rfl | rfl | rfl
      · exact ⟨_, rfl, by decide, by decide⟩
      · exact ⟨_, rfl, by decide, by decide⟩
      · exact ⟨_, rfl, by decide, by decide⟩
    refine ⟨_, rfl, _, rfl, d, l, a3, 6, rfl, p3, by omega, by decide, by decide, fun r1 a4 H4 r10 r1n g3 g4 p4 b4 => ⟨_, _, rfl, rfl, ?_⟩⟩
    have tb4 := (tabs_but p3 b4 tb3)
    refine ⟨_, rfl, d, l, a4, 8, rfl, p4, by omega, by decide, by decide, fun r2 a5 H5 r20 r2n g5 g6 p5 b5 => ⟨_, _, rfl, rfl, ?_⟩⟩
    have tb5 := (tabs_but p4 b5 tb4)
    refine ⟨_, rfl, d, l, a5, 9, rfl, p5, by omega, by decide, by decide, fun r3 a6 H6 r30 r3n g7 g8 p6 b6 => ?_⟩
    have tb6 := (tabs_but p5 b6 tb5)
    obtain ⟨j1, rfl⟩ := Int.eq_ofNat_of_zero_le r10
    obtain ⟨j2, rfl⟩ := Int.eq_ofNat_of_zero_le r20
    refine ⟨_, rfl, d, l, a6, 1 + j1, 1 + j2, r3, st, by rw [Int.natCast_add, Int.natCast_add]; rfl, p6, by omega, by omega, by omega, by omega, by omega, r30, by omega, st0, st1, fun N ok lz lr lo a7 H7 g9 g10 p7 b7 u hu hN => ?_⟩
    have tb7 := (tabs_but p6 b7 tb6)
    have ln0 : N.told.length = 1 + j1 := lz
    have ln1 : N.rows.length = 1 + j2 := lr
    refine ⟨_, rfl, d, u, N, rfl, hN, ok, by omega, by omega, by omega, fun H8 s8 => ?_⟩
    refine fun x dx nx ndx ne => ⟨x, dx, linesOf N, finOf N, rfl, upd_same, reads_of ok (by omega) (by omega) (by omega) (by omega), fun H9 fr9 hNet => ⟨rfl, ?_⟩⟩
    have s9 : Same H8 H9 := fun c o q => fr9 c o (by rw [upd_ne (ne_of_none q nx), upd_ne (ne_of_none q ndx)]; exact q) (ne_of_none q nx)
    have s79 := s8.trans s9
    have p9 := p7.same s79
    have tb9 := (Tabs.ext tb7 s79)
    have hN9 : NetH d H9 u N := hN.same s79
    refine ⟨_, rfl, d, u, N, rfl, hN9, by omega, fun un H10 s10 hun unq => ⟨_, _, rfl, ?_⟩⟩
    have p10 := p9.same s10
    have z1 : N.told.length ≤ 100 := by omega
    have z2 : N.rows.length ≤ 100 := by omega
    have nne : N.names.map V.str ≠ [] := fun e => by
      have := congrArg List.length e
      unfold DNet.names at this
      rw [List.length_map, List.length_map, ln1] at this
      simp only [List.length_nil] at this
      omega
    have nl1000 : (N.names.map V.str).length ≤ 1000 := by unfold DNet.names; rw [List.length_map, List.length_map]; omega
    refine ⟨4, rfl, by decide, by decide, for_range (lo := 0) (n := 4)
      (fun i σ H' => ∃ (x6 x7 x8 x9 x10 x11 x12 x13 : Option V) (a' : Int), σ = [some (.ref sa), some (.ref d), some (.int st), some (.ref u), some (.ref x), some (.ref un), x6, x7, x8, x9, x10, x11, x12, x13] ∧ Pen H' d l a' ∧ 0 ≤ a' ∧ a' ≤ 2000 + 200 * i ∧ NetH d H' u N ∧ NetAt (He.ga K "Net") x H' (finOf N) ∧ Tabs (LT K) H' ∧ H' un = some (.lst (N.names.map V.str)))
      ⟨none, none, none, none, none, none, none, none, a7, rfl, p10, by omega, by omega, hN9.same s10, hNet.same s10, Tabs.ext tb9 s10, unq⟩ ?_ ?_⟩
    · rintro i σ Ha hi ⟨x6, x7, x8, x9, x10, x11, x12, x13, a', rfl, pa, ga, ga', hNa, hXa, tba, una⟩
      refine ⟨(by show 4 ≤ sizeLine; decide), fun tk htk => ?_⟩
      have sk := same_upd (o := .tup [.str "day", .str "float", .str "zoned", .str "fixed"]) htk
      have tkq : (upd Ha tk (.tup [.str "day", .str "float", .str "zoned", .str "fixed"])) tk = some (.tup (KS.map V.str)) := upd_same
      generalize upd Ha tk (.tup [.str "day", .str "float", .str "zoned", .str "fixed"]) = Hb at sk tkq ⊢
      refine ⟨tk, rfl, ⟨_, SqT.of tkq⟩, for_it (walk_tup (xs := KS.map V.str))
        (fun j σ H' => ∃ (x7 x8 x9 x10 x11 x12 x13 : Option V) (a2 : Int), σ = [some (.ref sa), some (.ref d), some (.int st), some (.ref u), some (.ref x), some (.ref un), some (.int (0 + (i : Int))), x7, x8, x9, x10, x11, x12, x13] ∧ Pen H' d l a2 ∧ 0 ≤ a2 ∧ a2 ≤ a' + 40 * j ∧ NetH d H' u N ∧ NetAt (He.ga K "Net") x H' (finOf N) ∧ Tabs (LT K) H' ∧ H' un = some (.lst (N.names.map V.str)) ∧ H' tk = some (.tup (KS.map V.str)))
        ⟨x7, x8, x9, x10, x11, x12, x13, a', rfl, pa.same sk, ga, by omega, hNa.same sk, hXa.same sk, Tabs.ext tba sk, sk _ _ una, tkq⟩ ?_ ?_ ?_⟩
      · rintro j σ H' hj ⟨_, _, _, _, _, _, _, _, _, _, _, _, _, _, _, _, q⟩
        exact SqT.of q
      · rintro j v σ Hc Hc' hj ⟨x7, x8, x9, x10, x11, x12, x13, a2, rfl, pc, gc, gc', hNc, hXc, tbc, unc, tkc⟩ ⟨rfl, hx⟩
        obtain ⟨kd, hkd, rfl⟩ : ∃ z, KS[j]? = some z ∧ v = .str z := by
          rw [List.getElem?_map] at hx
          cases e : KS[j]? with
          | none => rw [e] at hx; cases hx
          | some z => exact ⟨z, rfl, by rw [e] at hx; exact (Option.some.inj hx).symm⟩
        have km := List.mem_of_getElem? hkd
        have lj : j < 4 := (List.getElem?_eq_some_iff.mp hkd).1
        refine ⟨_, rfl, _, rfl, _, rfl, _, rfl, d, l, u, a2, st, kd, N, rfl, pc, by omega, hNc, by omega, z1, (fun z hz => (ok.zname z hz).1), km, st0, st1, fun fi la o val lo hi zin a3 Hd g11 g12 pd bd ev hev evq => ?_⟩
        have tbd := tabs_but pc bd tbc
        have hNd := hNc.but pc bd
        have hXd := hXc.but pc bd
        have und := keepL pc bd unc
        have tkd := keepT pc bd tkc
        have h0 : E0k (finOf N) kd o fi la := e0_of ok val lo hi zin
        -- two programs
        refine ⟨_, rfl, _, rfl, d, l, a3, _, rfl, pd, by omega, .inl ⟨un, _, rfl, pd.dne und, und, nne, nl1000, fun y1 a4 He' hy1 g13 g14 pe be => ?_⟩⟩
        obtain ⟨p, hp, rfl⟩ := List.mem_map.mp hy1
        have tbe := tabs_but pd be tbd
        have hNe := hNd.but pd be
        have hXe := hXd.but pd be
        have une := keepL pd be und
        have tke := keepT pd be tkd
        have eve := keepT pd be evq
        refine ⟨_, rfl, _, rfl, d, l, a4, _, rfl, pe, by omega, .inl ⟨un, _, rfl, pe.dne une, une, nne, nl1000, fun y2 a5 Hf' hy2 g15 g16 pf bf => ⟨_, _, rfl, ?_⟩⟩⟩
        obtain ⟨q, hq, rfl⟩ := List.mem_map.mp hy2
        have tbf := tabs_but pe bf tbe
        have hNf := hNe.but pe bf
        have hXf := hXe.but pe bf
        have unf := keepL pe bf une
        have tkf := keepT pe bf tke
        have evf := keepT pe bf eve
        dsimp only [gName]
        refine ⟨_, rfl, _, rfl, _, rfl, (by show 3 ≤ sizeLine; decide), fun t3 ht3 => ?_⟩
        have sg := same_upd (o := .tup [.str p, .str q, .str p]) ht3
        have t3q : (upd Hf' t3 (.tup [.str p, .str q, .str p])) t3 = some (.tup [.str p, .str q, .str p]) := upd_same
        generalize upd Hf' t3 (.tup [.str p, .str q, .str p]) = Hg at sg t3q ⊢
        have pg := pf.same sg
        have tbg := Tabs.ext tbf sg
        have hNg := hNf.same sg
        have hXg := hXf.same sg
        have ung := sg _ _ unf
        have tkg := sg _ _ tkf
        have evg := sg _ _ evf
        refine ⟨t3, rfl, ⟨_, SqT.of t3q⟩, for_it (walk_tup (xs := [.str p, .str q, .str p]))
          (fun m σ H' => ∃ (x11 : Option V), σ = [some (.ref sa), some (.ref d), some (.int st), some (.ref u), some (.ref x), some (.ref un), some (.int (0 + (i : Int))), some (.str kd), some (.ref ev), some (.str p), some (.str q), x11, x12, x13] ∧ Same Hg H')
          ⟨x11, rfl, Same.refl _⟩ (fun m σ H' _ q => by obtain ⟨_, _, s⟩ := q; exact SqT.of (s _ _ t3q)) ?_ ?_⟩
        · rintro m v σ Hh Hh' hm ⟨x11, rfl, sh⟩ ⟨rfl, hv⟩
          obtain ⟨r, rfl, hr⟩ : ∃ r, v = .str r ∧ r ∈ N.names := by
            have := List.mem_of_getElem? hv
            simp only [List.mem_cons, List.not_mem_nil, or_false] at this
            rcases this with rfl | rfl | rfl
            · exact ⟨_, rfl, hp⟩
            · exact ⟨_, rfl, hq⟩
            · exact ⟨_, rfl, hp⟩
          exact ⟨_, rfl, _, rfl, _, rfl, _, rfl, d, x, u, ev, N, r, kd, fi, la, o, rfl, hXg.same sh, hNg.same sh, ok, z1, z2, hr, h0, sh _ _ evg, fun H' s' => ⟨true, rfl, ifN rfl ⟨_, rfl, sh.trans s'⟩⟩⟩
        · rintro σ Hh ⟨x11, rfl, sh⟩
          have ph := pg.same sh
          refine ⟨_, rfl, _, rfl, _, rfl, _, rfl, d, l, x, ev, a5, N, p, kd, fi, la, o, rfl, ph, by omega, hXg.same sh, ok, hp, h0, sh _ _ evg, Tabs.ext tbg sh, fun a6 Hm Hn g17 g18 pm bm eN tbn => ⟨true, rfl, ifN rfl ?_⟩⟩
          have hNn := ((hNg.same sh).but ph bm).extN eN
          have hXn := ((hXg.same sh).but ph bm).extN eN
          have unn := eN _ _ (keepL ph bm (sh _ _ ung)) (fun _ => nofun)
          have tkn := eN _ _ (keepT ph bm (sh _ _ tkg)) (fun _ => nofun)
          have evn := eN _ _ (keepT ph bm (sh _ _ evg)) (fun _ => nofun)
          have pn := pm.extN eN
          refine ⟨_, rfl, (by show 2 ≤ sizeLine; decide), fun tz htz => ⟨tz, _, rfl, .inr (SqT.of upd_same), rfl, rfl, _, rfl, ifQ (fun hc => ?_) (fun hc => ?_)⟩⟩
          · have sz := same_upd (o := .tup [.str "zoned", .str "fixed"]) htz
            generalize upd Hn tz (.tup [.str "zoned", .str "fixed"]) = Ho at sz ⊢
            have lk5 := ks_len val.kin
            have nmL : ∀ n, o = some n → n.length ≤ 100 := fun n hn => by have := name_len (val.nm n hn); omega
            obtain ⟨sma, smb⟩ := h0.sm
            have ml := mk_len val sma smb
            obtain ⟨hmp, ohp, kpp⟩ := known_of ok hp
            obtain ⟨hmq, ohq, kpq⟩ := known_of ok hq
            obtain ⟨oz, kz⟩ := h0.oz
            have nd : kd ≠ "day" ∧ leadS kd ohq oz - leadS kd ohp oz = ohq - ohp := by
              have n5 : ¬ (("zoned" : Str) = "fixed") := by decide +kernel
              rcases ks4 val.kin with rfl | rfl | rfl | rfl
              · exact absurd hc (by decide +kernel)
              · exact absurd hc (by decide +kernel)
              · refine ⟨by decide +kernel, ?_⟩
                unfold leadS
                rw [if_neg n5, if_neg n5, if_pos rfl, if_pos rfl]
                omega
              · refine ⟨by decide +kernel, ?_⟩
                unfold leadS
                rw [if_pos rfl, if_pos rfl]
            refine ⟨_, rfl, ev, kd, fi, la, o, rfl, SqT.of (sz _ _ evn), by omega, sma, smb, nmL, fun y dy ny ndy nyd => ⟨y, dy, .str _, some 30, rfl, upd_same, .inl ⟨_, rfl, by omega, fun k' a'' b' o' rd Hp kp en => ⟨rfl, ?_⟩, fun no => absurd h0.rd (no _ _ _ _)⟩⟩⟩
            obtain ⟨rfl, rfl, rfl, rfl⟩ := rd.uniq h0.rd
            have sp : Same Ho Hp := fun c u q => kp c u (by rw [upd_ne (ne_of_none q ny), upd_ne (ne_of_none q ndy)]; exact q) (ne_of_none q ny)
            obtain ⟨zt, en⟩ : ∃ zt, EntA (He.ga K "Entry") y zt k' a'' b' o' Hp := ⟨_, en⟩
            have snp := sz.trans sp
            have hNp := hNn.same snp
            refine ⟨_, rfl, _, rfl, _, rfl, d, u, N, q, hmq, rfl, hNp, z2, kpq.hs, fun Hq sq => ⟨d, u, N, hmq, ohq, rfl, hNp.same sq, z1, kpq.zs, fun Hr sr => ⟨_, _, rfl, ?_⟩⟩⟩
            have hNr := (hNp.same sq).same sr
            refine ⟨_, rfl, _, rfl, _, rfl, _, rfl, d, u, N, p, hmp, rfl, hNr, z2, kpp.hs, fun Hs ss => ⟨d, u, N, hmp, ohp, rfl, hNr.same ss, z1, kpp.zs, fun Ht st' => ⟨_, _, rfl, rfl, ?_⟩⟩⟩
            have snt := (((snp.trans sq).trans sr).trans ss).trans st'
            have spt := ((sq.trans sr).trans ss).trans st'
            refine ⟨_, rfl, _, rfl, _, rfl, ?_⟩
            dsimp only [tNil]
            refine clock_one (hXn.same snt) kpq (en.same spt) kz fun v1 Hu su cv1 => ?_
            obtain ⟨t4, rfl, t4q⟩ := (show ClkV Hu k' _ _ v1 from cv1).resolve_left (fun z => nd.1 z.1) |>.2
            refine ⟨t4, _, _, _, rfl, rfl, SqT.of t4q, rfl, ?_⟩
            refine ⟨_, rfl, _, rfl, _, rfl, ?_⟩
            dsimp only [tNil]
            refine clock_one (hXn.same (snt.trans su)) kpp (en.same (spt.trans su)) kz fun v2 Hv sv cv2 => ?_
            obtain ⟨t5, rfl, t5q⟩ := (show ClkV Hv k' _ _ v2 from cv2).resolve_left (fun z => nd.1 z.1) |>.2
            refine ⟨t5, _, _, _, rfl, rfl, SqT.of t5q, rfl, _, _, rfl, rfl, _, rfl, rfl, _, rfl, ifN ?_ ?_⟩
            · have e : minS k' a'' + leadS k' ohq oz - (minS k' a'' + leadS k' ohp oz) = ohq - ohp := by omega
              show (!decide (V.int (minS k' a'' + leadS k' ohq oz - (minS k' a'' + leadS k' ohp oz)) = V.int (ohq - ohp))) = false
              rw [e]
              simp
            · have snv := (snt.trans su).trans sv
              exact ⟨_, _, _, _, _, _, _, a6, rfl, pn.same snv, by omega, by omega, hNn.same snv, hXn.same snv, Tabs.ext tbn snv, snv _ _ unn, snv _ _ tkn⟩
          · have sz := same_upd (o := .tup [.str "zoned", .str "fixed"]) htz
            exact ⟨_, _, _, _, _, _, _, a6, rfl, pn.same sz, by omega, by omega, hNn.same sz, hXn.same sz, Tabs.ext tbn sz, sz _ _ unn, sz _ _ tkn⟩
      · rintro σ Hc ⟨x7, x8, x9, x10, x11, x12, x13, a2, rfl, pc, gc, gc', hNc, hXc, tbc, unc, tkc⟩
        have gc' : a2 ≤ a' + 40 * ((4 : Nat) : Int) := gc'
        exact ⟨_, _, _, _, _, _, _, _, a2, rfl, pc, by omega, by omega, hNc, hXc, tbc, unc⟩
    · rintro σ Ha ⟨x6, x7, x8, x9, x10, x11, x12, x13, a', rfl, pa, ga, ga', hNa, hXa, tba, una⟩
      obtain ⟨dx, a1, a2, a3, t1, t2, t3, a4, vo, q0, _⟩ := hXa.at_
      refine ⟨_, rfl, x, _, dx, _, _, rfl, q0, Nt.cl, Nt.n7, nf_text, _, rfl, d, u, N, rfl, hNa, ok, by omega, by omega, by omega, fun Hb sb => ⟨rfl, ?_⟩⟩
      rw [lines_fin ok, decide_eq_true rfl]
      exact k Hb
end
end Wd
end
section
set_option Elab.async false
set_option linter.all false
set_option maxRecDepth 100000
set_option maxHeartbeats 4000000
namespace Wd
open PySem PySem.Spec PyProof.Rows L2 Wt TL NumText
theorem dtup_ok {K : PySem.W.Frag} {x k : Str} {vs : List He.Dv} (h : dtupB K x k vs = true) : PySem.W.nsIn K (He.ga K x) k = some (some (.ref (dtup K x k))) ∧ ∀ H, SqT K H (dtup K x k) (vs.map (He.Dv.v K)) := by
  unfold dtupB at h
  obtain ⟨h1, h2⟩ := He.ba h
  refine ⟨He.eqO_ok h1, fun H => .inr ?_⟩
  split at h2
  · rename_i e
    obtain ⟨g1, g2⟩ := He.ba h2
    obtain ⟨g3, g4⟩ := He.ba g2
    exact ⟨_, _, _, e, congrArg Value.type (of_decide_eq_true g1), rfl, of_decide_eq_true g3, He.relAll_ok g4⟩
  · cases h2
theorem tabs0 {K : PySem.W.Frag} {H : Hp} (h : ∀ p ∈ tf.map (He.cT K), H p.2 = some (.tbl #[])) : LamX.Tabs (LT K) H := fun p hp => by
  simp only [LT, List.mem_cons, List.not_mem_nil, or_false] at hp
  subst hp
  · exact LamX.TabS.nil (h (He.cT K ("_law_refused", none)) (List.mem_map.mpr ⟨("_law_refused", none), (by decide +kernel), rfl⟩))
section
variable {P : Program} {w : World} {K : PySem.W.Frag} {h : Heap} {mg : Str → Option Value} {base : Heap}
theorem df_of {CX : CXT} {x : Str} {st : Stmt} {f : Addr} {fd : FuncData} {ps : List Str} {k : Nat} {sp : Sp} (F : FunD K x x (defArgs st) (defBody st) (defScope st) [] [] f fd) (gl : mg x = some (.ref f)) (G : FnOk P w K mg base CX k f fd ps sp)
    (b : Binds K fd ps []) : Df P w K mg base CX k x ps sp := ⟨f, fd, G, gl, F.kp, b⟩
theorem facts {f : Addr} (X : K.In h) (G : h.Ns mainGlobals mg) (hfa : mg ("law" : Str) = some (.ref f)) (c : SaysU q fn ts w K) :
    ∃ fd : FuncData, (∀ (s : Shared) (v : Value), BindsTo s fd ⟨[v], []⟩ [("_law_script", v)]) ∧ ∀ base : Heap, K.In base → base.Ns mainGlobals mg → (∀ p ∈ tf.map (He.cT K), LamX.TabB base mg p.1 p.2) → FnOk P w K mg base CX0 14 f fd ["_law_script"] (spLawT K) := by
  obtain ⟨t1, t2⟩ := He.ba c.test
  have fa : ∀ (i : Nat) {u : He.Fa}, fas[i]? = some u → u.ok K = true := fun i u z => List.all_eq_true.mp t1 u (List.mem_of_getElem? z)
  have tq : ∀ (i : Nat) (b : Bool), (tst K)[i]? = some b → b = true := fun i b z => List.all_eq_true.mp t2 b (List.mem_of_getElem? z)
  obtain ⟨d46, F46⟩ := c.def_ 46 rfl
  have F46 : FnG K "law" i_law (He.ga K "law") d46 := F46
  have e := hfa.symm.trans (He.glo_ok X G (fa 46 (u := .glo "law") rfl))
  cases e
  have bl := FunD.bindsA (ps := ["_law_script"]) F46 fun _ _ _ _ _ _ us hl => match us, hl with | [_], _ => rfl
  refine ⟨d46, fun s v => bl s [v] rfl, fun base _ _ hTB => ?_⟩
  have TP : TxtP mg := ⟨(He.free_ok X G (fa 70 (u := .free "list") rfl)), (He.free_ok X G (fa 67 (u := .free "int") rfl)), (He.free_ok X G (fa 69 (u := .free "len") rfl))⟩
  have T : Tx K mg := ⟨TP, (He.free_ok X G (fa 72 (u := .free "str") rfl)), (He.free_ok X G (fa 68 (u := .free "isinstance") rfl)), (He.free_ok X G (fa 71 (u := .free "range") rfl)), (He.free_ok X G (fa 64 (u := .free "bool") rfl)), (He.free_ok X G (fa 65 (u := .free "dict") rfl)), (He.free_ok X G (fa 66 (u := .free "enumerate") rfl)), (He.free_ok X G (fa 73 (u := .free "tuple") rfl)), (He.glo_ok X G (fa 54 (u := .glo "KINDS") rfl)), (fun H => He.tupB_ok (tq 0 _ rfl) H), (He.glo_ok X G (fa 57 (u := .glo "CLOCKED") rfl)), (fun H => He.tupB_ok (tq 1 _ rfl) H), (He.int_ok X G (fa 53 (u := .int "DAY" 1440) rfl)), (He.int_ok X G (fa 52 (u := .int "MOST_LETTERS" 12) rfl)), (He.int_ok X G (fa 56 (u := .int "LAST_MINUTE" 1439) rfl)), (He.int_ok X G (fa 59 (u := .int "MOST_ZONES" 6) rfl)), (He.int_ok X G (fa 60 (u := .int "MOST_PROGRAMS" 12) rfl)), (He.int_ok X G (fa 61 (u := .int "MOST_ROUTES" 40) rfl)), (He.int_ok X G (fa 62 (u := .int "MOST_OFFSET" 840) rfl)), (He.str_ok X G (fa 55 (u := .str "KEEP" "keep") rfl)), (He.cls_ok (fa 74 (u := .cls "Entry") rfl)), (He.noat_ok (fa 76 (u := .noat "Entry" "text") rfl)), (He.noat_ok (fa 77 (u := .noat "Entry" "kind") rfl)), (He.noat_ok (fa 78 (u := .noat "Entry" "first") rfl)), (He.noat_ok (fa 79 (u := .noat "Entry" "last") rfl)), (He.noat_ok (fa 80 (u := .noat "Entry" "zone") rfl)), (He.glo_ok X G (fa 47 (u := .glo "Entry") rfl))⟩
  have R : Tr K w mg := by
    obtain ⟨es, n, tb⟩ := c.tab 0 rfl
    have rk : ∀ (k : Str) (vs : List He.Dv), dtupB K "RULES" k vs = true → vs.map (He.Dv.v K) = ((rulesFor k).drop 1).map V.str → ∃ t, KDct K w (He.ga K "RULES") k (.ref t) ∧ ∀ H, SqT K H t (((rulesFor k).drop 1).map V.str) := fun k vs h e => by
      obtain ⟨h1, h2⟩ := dtup_ok h
      rw [e] at h2
      exact ⟨_, ⟨es, n, _, tb.at_, tb.lit, h1, rfl⟩, h2⟩
    refine ⟨He.glo_ok X G (fa 58 (u := .glo "RULES") rfl), fun k hk hd => ?_⟩
    rcases ks4 hk with rfl | rfl | rfl | rfl
    · exact absurd rfl hd
    · exact rk _ _ (tq 2 _ rfl) rfl
    · exact rk _ _ (tq 3 _ rfl) rfl
    · exact rk _ _ (tq 4 _ rfl) rfl
  have tTn : Tn K mg := ⟨(He.cls_ok (fa 103 (u := .cls "Net") rfl)), (He.noat_ok (fa 105 (u := .noat "Net" "_offsets") rfl)), (He.noat_ok (fa 106 (u := .noat "Net" "_homes") rfl)), (He.noat_ok (fa 107 (u := .noat "Net" "_rules") rfl)), (He.noat_ok (fa 108 (u := .noat "Net" "zones") rfl)), (He.noat_ok (fa 109 (u := .noat "Net" "programs") rfl)), (He.noat_ok (fa 110 (u := .noat "Net" "routes") rfl)), (He.noat_ok (fa 112 (u := .noat "Net" "text") rfl)), (He.noat_ok (fa 111 (u := .noat "Net" "_targets") rfl))⟩
  obtain ⟨d47, F47⟩ := c.def_ 47 rfl
  have F47 : FunD K "__init__" "Entry.__init__" (defArgs (inClass (top i_Entry) j_Entry___init__)) (defBody (inClass (top i_Entry) j_Entry___init__)) (defScope (inClass (top i_Entry) j_Entry___init__)) [] [("digits", .int 30)] (He.ma K (He.ga K "Entry") "__init__") d47 := F47
  obtain ⟨d6, F6⟩ := c.def_ 6 rfl
  have F6 : FnG K "_parts" i__parts (He.ga K "_parts") d6 := F6
  obtain ⟨d2, F2⟩ := c.def_ 2 rfl
  have F2 : FunD K "number_in" "number_in" (defArgs (top i_number_in)) (defBody (top i_number_in)) (defScope (top i_number_in)) [.int 30] [] (He.ga K "number_in") d2 := F2
  have B2 : Binds K d2 ["word", "digits"] [] := by
    obtain ⟨ds, r, b⟩ := F2.binds1 (ps := ["word", "digits"]) 2 1 (List.cons_ne_nil _ _) rfl fun _ _ _ _ _ _ _ us its h1 h2 => match us, its, h1, h2 with | [_, _], [_], _, _ => ⟨_, rfl, rfl⟩
    cases r
    exact b
  have G_number_in : Df P w K mg base CX0 1 "number_in" ["word", "digits"] spNum := ⟨_, d2, (ok_num F2 T), He.glo_ok X G (fa 2 (u := .glo "number_in") rfl), F2.kp, B2⟩
  obtain ⟨d4, F4⟩ := c.def_ 4 rfl
  have F4 : FnG K "is_kind" i_is_kind (He.ga K "is_kind") d4 := F4
  have G_is_kind : Df P w K mg base CX0 1 "is_kind" ["value"] spIsk := df_of F4 (He.glo_ok X G (fa 4 (u := .glo "is_kind") rfl)) (ok_isk F4 T) (F4.bindsN fun _ _ _ _ _ _ us hl => match us, hl with | [_], _ => rfl)
  obtain ⟨d1, F1⟩ := c.def_ 1 rfl
  have F1 : FnG K "is_name" i_is_name (He.ga K "is_name") d1 := F1
  have G_is_name : Df P w K mg base CX0 1 "is_name" ["value"] spName := df_of F1 (He.glo_ok X G (fa 1 (u := .glo "is_name") rfl)) (ok_nam F1 T) (F1.bindsN fun _ _ _ _ _ _ us hl => match us, hl with | [_], _ => rfl)
  have D10_DParts : DParts P w K mg base := ⟨G_number_in, G_is_kind, G_is_name⟩
  have G_parts : Df P w K mg base (L2.CX P w) 3 "_parts" ["words", "digits"] (spParts (He.ga K "BadText")) := df_of F6 (He.glo_ok X G (fa 6 (u := .glo "_parts") rfl)) (ok_parts F6 T D10_DParts) (F6.bindsN fun _ _ _ _ _ _ us hl => match us, hl with | [_, _], _ => rfl)
  have D12_DEnt : DEnt P w K mg base (He.ga K "BadText") := ⟨G_parts⟩
  have Bent : ∃ ds, Vals [V.int 30] ds ∧ Binds K d47 ["self", "text", "digits"] ds :=
    F47.binds0 (ps := ["self", "text", "digits"]) 2 (List.cons_ne_nil _ _) rfl fun _ _ _ _ _ _ us ks h1 h2 => match us, ks, h1, h2 with | [_, _], [_], _, _ => ⟨_, _, _, _, _, _, rfl, rfl, rfl⟩
  have Kent : ∃ mv : List Value, KBn K d47 ["self", "text", "digits"] 2 ["digits"] (fun us ws => us ++ (mv ++ ws)) (fun vs zs => vs ++ ([] ++ zs)) :=
    F47.kbinds0 (ps := ["self", "text", "digits"]) (n := 2) (ks := ["digits"]) (ms := []) (g := fun us mv ws => us ++ (mv ++ ws)) (List.cons_ne_nil _ _) (fun q hq => absurd hq List.not_mem_nil)
      (fun r1 r2 r3 => r1.append (r2.append r3)) fun _ _ _ _ _ _ us mv ws h1 h2 h3 => match us, mv, ws, h1, h2, h3 with | [_, _], [], [_], _, _, _ => rfl
  have D14_DOf : DOf P w K mg base (He.ga K "BadText") := ⟨(He.mkr_ok (fa 75 (u := .mkr "Entry") rfl)), ⟨d47, (ok_ent F47 T D12_DEnt), Kent, Bent⟩⟩
  obtain ⟨d23, F23⟩ := c.def_ 23 rfl
  have F23 : FnG K "_law_draw" i__law_draw (He.ga K "_law_draw") d23 := F23
  have G_law_draw : Df P w K mg base CX0 1 "_law_draw" ["_law_pen_here", "_law_many"] spDraw := df_of F23 (He.glo_ok X G (fa 23 (u := .glo "_law_draw") rfl)) (ok_draw F23 TP) (F23.bindsN fun _ _ _ _ _ _ us hl => match us, hl with | [_, _], _ => rfl)
  obtain ⟨d24, F24⟩ := c.def_ 24 rfl
  have F24 : FnG K "_law_pick" i__law_pick (He.ga K "_law_pick") d24 := F24
  have G_law_pick : Df P w K mg base CX0 2 "_law_pick" ["_law_pen_here", "_law_some"] (spPick K) := df_of F24 (He.glo_ok X G (fa 24 (u := .glo "_law_pick") rfl)) (ok_pick F24 TP G_law_draw) (F24.bindsN fun _ _ _ _ _ _ us hl => match us, hl with | [_, _], _ => rfl)
  obtain ⟨d22, F22⟩ := c.def_ 22 rfl
  have F22 : FnG K "_law_pen" i__law_pen (He.ga K "_law_pen") d22 := F22
  have G_law_pen : Df P w K mg base CX0 1 "_law_pen" ["_law_script"] (spPen K) := df_of F22 (He.glo_ok X G (fa 22 (u := .glo "_law_pen") rfl)) (ok_pen F22 TP) (F22.bindsN fun _ _ _ _ _ _ us hl => match us, hl with | [_], _ => rfl)
  obtain ⟨d33, F33⟩ := c.def_ 33 rfl
  have F33 : FnG K "_law_net" i__law_net (He.ga K "_law_net") d33 := F33
  have D22_DDraw : DDraw P w K mg base := ⟨G_law_draw, G_law_pick⟩
  obtain ⟨d27, F27⟩ := c.def_ 27 rfl
  have F27 : FnG K "_law_words" i__law_words (He.ga K "_law_words") d27 := F27
  have G_law_words : Df P w K mg base CX0 4 "_law_words" ["_law_pen_here", "_law_many"] spWords := df_of F27 (He.glo_ok X G (fa 27 (u := .glo "_law_words") rfl)) (ok_words F27 T D22_DDraw) (F27.bindsN fun _ _ _ _ _ _ us hl => match us, hl with | [_, _], _ => rfl)
  obtain ⟨d28, F28⟩ := c.def_ 28 rfl
  have F28 : FnG K "_law_offset" i__law_offset (He.ga K "_law_offset") d28 := F28
  have G_law_offset : Df P w K mg base CX0 2 "_law_offset" ["_law_pen_here", "_law_step"] spOffset := df_of F28 (He.glo_ok X G (fa 28 (u := .glo "_law_offset") rfl)) (ok_offset F28 T D22_DDraw) (F28.bindsN fun _ _ _ _ _ _ us hl => match us, hl with | [_, _], _ => rfl)
  obtain ⟨d31, F31⟩ := c.def_ 31 rfl
  have F31 : FnG K "_law_rule" i__law_rule (He.ga K "_law_rule") d31 := F31
  obtain ⟨d29, F29⟩ := c.def_ 29 rfl
  have F29 : FnG K "_law_hours" i__law_hours (He.ga K "_law_hours") d29 := F29
  have G_law_hours : Df P w K mg base CX0 2 "_law_hours" ["_law_pen_here", "_law_step"] spHours := df_of F29 (He.glo_ok X G (fa 29 (u := .glo "_law_hours") rfl)) (ok_hours F29 T D22_DDraw) (F29.bindsN fun _ _ _ _ _ _ us hl => match us, hl with | [_, _], _ => rfl)
  obtain ⟨d30, F30⟩ := c.def_ 30 rfl
  have F30 : FnG K "_law_rules_for" i__law_rules_for (He.ga K "_law_rules_for") d30 := F30
  have G_law_rules_for : Df P w K mg base CX0 1 "_law_rules_for" ["_law_kind"] spRulesFor := df_of F30 (He.glo_ok X G (fa 30 (u := .glo "_law_rules_for") rfl)) (ok_rulesFor F30 T) (F30.bindsN fun _ _ _ _ _ _ us hl => match us, hl with | [_], _ => rfl)
  have D32_DRule : DRule P w K mg base := ⟨D22_DDraw, G_law_hours, G_law_rules_for⟩
  have G_law_rule : Df P w K mg base CX0 4 "_law_rule" ["_law_pen_here", "_law_kind", "_law_step"] spRule := df_of F31 (He.glo_ok X G (fa 31 (u := .glo "_law_rule") rfl)) (ok_rule F31 T D32_DRule) (F31.bindsN fun _ _ _ _ _ _ us hl => match us, hl with | [_, _, _], _ => rfl)
  obtain ⟨d32, F32⟩ := c.def_ 32 rfl
  have F32 : FnG K "_law_routes" i__law_routes (He.ga K "_law_routes") d32 := F32
  obtain ⟨d25, F25⟩ := c.def_ 25 rfl
  have F25 : FnG K "_law_shuffled" i__law_shuffled (He.ga K "_law_shuffled") d25 := F25
  have G_law_shuffled : Df P w K mg base CX0 2 "_law_shuffled" ["_law_pen_here", "_law_some"] spShuf := df_of F25 (He.glo_ok X G (fa 25 (u := .glo "_law_shuffled") rfl)) (ok_shuf F25 T D22_DDraw) (F25.bindsN fun _ _ _ _ _ _ us hl => match us, hl with | [_, _], _ => rfl)
  have D37_DRoutes : DRoutes P w K mg base := ⟨D22_DDraw, G_law_shuffled⟩
  have G_law_routes : Df P w K mg base CX0 4 "_law_routes" ["_law_pen_here", "_law_names_here", "_law_many"] spRoutes := df_of F32 (He.glo_ok X G (fa 32 (u := .glo "_law_routes") rfl)) (ok_routes F32 T D37_DRoutes) (F32.bindsN fun _ _ _ _ _ _ us hl => match us, hl with | [_, _, _], _ => rfl)
  have D39_DNetD : DNetD P w K mg base := ⟨D22_DDraw, G_law_words, G_law_offset, G_law_rule, G_law_routes⟩
  have G_law_net : Df P w K mg base CX0 6 "_law_net" ["_law_pen_here", "_law_zones", "_law_programs", "_law_routes_here", "_law_step"] spNet := df_of F33 (He.glo_ok X G (fa 33 (u := .glo "_law_net") rfl)) (ok_lnet F33 T D39_DNetD) (F33.bindsN fun _ _ _ _ _ _ us hl => match us, hl with | [_, _, _, _, _], _ => rfl)
  obtain ⟨d34, F34⟩ := c.def_ 34 rfl
  have F34 : FnG K "_law_net_text" i__law_net_text (He.ga K "_law_net_text") d34 := F34
  have G_law_net_text : Df P w K mg base CX0 2 "_law_net_text" ["_law_net_here"] (spText K) := df_of F34 (He.glo_ok X G (fa 34 (u := .glo "_law_net_text") rfl)) (ok_ltext F34 T) (F34.bindsN fun _ _ _ _ _ _ us hl => match us, hl with | [_], _ => rfl)
  obtain ⟨d60, F60⟩ := c.def_ 60 rfl
  have F60 : FunD K "__init__" "Net.__init__" (defArgs (inClass (top i_Net) j_Net___init__)) (defBody (inClass (top i_Net) j_Net___init__)) (defScope (inClass (top i_Net) j_Net___init__)) [] [] (He.ma K (He.ga K "Net") "__init__") d60 := F60
  have tTp : Tp K mg := ⟨(He.cls_ok (fa 92 (u := .cls "Parts") rfl)), (He.noat_ok (fa 94 (u := .noat "Parts" "offsets") rfl)), (He.noat_ok (fa 95 (u := .noat "Parts" "homes") rfl)), (He.noat_ok (fa 96 (u := .noat "Parts" "rules") rfl)), (He.noat_ok (fa 97 (u := .noat "Parts" "routes") rfl))⟩
  obtain ⟨d18, F18⟩ := c.def_ 18 rfl
  have F18 : FnG K "read_parts" i_read_parts (He.ga K "read_parts") d18 := F18
  obtain ⟨d54, F54⟩ := c.def_ 54 rfl
  have F54 : FunD K "__init__" "Parts.__init__" (defArgs (inClass (top i_Parts) j_Parts___init__)) (defBody (inClass (top i_Parts) j_Parts___init__)) (defScope (inClass (top i_Parts) j_Parts___init__)) [] [] (He.ma K (He.ga K "Parts") "__init__") d54 := F54
  obtain ⟨d55, F55⟩ := c.def_ 55 rfl
  have F55 : FunD K "take" "Parts.take" (defArgs (inClass (top i_Parts) j_Parts_take)) (defBody (inClass (top i_Parts) j_Parts_take)) (defScope (inClass (top i_Parts) j_Parts_take)) [] [] (He.ma K (He.ga K "Parts") "take") d55 := F55
  obtain ⟨d56, F56⟩ := c.def_ 56 rfl
  have F56 : FunD K "take_zone" "Parts.take_zone" (defArgs (inClass (top i_Parts) j_Parts_take_zone)) (defBody (inClass (top i_Parts) j_Parts_take_zone)) (defScope (inClass (top i_Parts) j_Parts_take_zone)) [] [] (He.ma K (He.ga K "Parts") "take_zone") d56 := F56
  have GD_number_in : DfD P w K mg base CX0 1 "number_in" ["word", "digits"] [.int 30] spNum := by
    obtain ⟨ds, r, b⟩ := F2.binds1 (ps := ["word", "digits"]) 1 0 (List.cons_ne_nil _ _) rfl fun _ _ _ _ _ _ _ us its h1 h2 => match us, its, h1, h2 with | [_], [_], _, _ => ⟨_, rfl, rfl⟩
    exact ⟨_, d2, ds, (ok_num F2 T), He.glo_ok X G (fa 2 (u := .glo "number_in") rfl), F2.kp, r, b⟩
  have D51_DDay : DDay P w K mg base := ⟨GD_number_in⟩
  obtain ⟨d17, F17⟩ := c.def_ 17 rfl
  have F17 : FnG K "is_offset" i_is_offset (He.ga K "is_offset") d17 := F17
  obtain ⟨d0, F0⟩ := c.def_ 0 rfl
  have F0 : FnG K "is_integer" i_is_integer (He.ga K "is_integer") d0 := F0
  have G_is_integer : Df P w K mg base CX0 1 "is_integer" ["value"] spIsInt := df_of F0 (He.glo_ok X G (fa 0 (u := .glo "is_integer") rfl)) (ok_isInt F0 T) (F0.bindsN fun _ _ _ _ _ _ us hl => match us, hl with | [_], _ => rfl)
  have D55_DOff : DOff P w K mg base := ⟨G_is_integer⟩
  have G_is_offset : Df P w K mg base CX0 2 "is_offset" ["value"] spIsOff := df_of F17 (He.glo_ok X G (fa 17 (u := .glo "is_offset") rfl)) (ok_isOff F17 T D55_DOff) (F17.bindsN fun _ _ _ _ _ _ us hl => match us, hl with | [_], _ => rfl)
  have D57_DTake : DTake P w K mg base := ⟨D51_DDay, G_is_name, G_is_offset⟩
  have M_Parts_take_zone : Md P w K mg base (He.ga K "Parts") CX0 3 "take_zone" ["self", "words"] (spTZone (He.ga K "Parts")) := ⟨_, _, He.meth_ok (fa 99 (u := .meth "Parts" "take_zone") rfl), (ok_tZone F56 T tTp D57_DTake), F56.bindsN fun _ _ _ _ _ _ us hl => match us, hl with | [_, _], _ => rfl⟩
  obtain ⟨d57, F57⟩ := c.def_ 57 rfl
  have F57 : FunD K "take_program" "Parts.take_program" (defArgs (inClass (top i_Parts) j_Parts_take_program)) (defBody (inClass (top i_Parts) j_Parts_take_program)) (defScope (inClass (top i_Parts) j_Parts_take_program)) [] [] (He.ma K (He.ga K "Parts") "take_program") d57 := F57
  have M_Parts_take_program : Md P w K mg base (He.ga K "Parts") CX0 3 "take_program" ["self", "words"] (spTProg (He.ga K "Parts")) := ⟨_, _, He.meth_ok (fa 100 (u := .meth "Parts" "take_program") rfl), (ok_tProg F57 T tTp D57_DTake), F57.bindsN fun _ _ _ _ _ _ us hl => match us, hl with | [_, _], _ => rfl⟩
  obtain ⟨d59, F59⟩ := c.def_ 59 rfl
  have F59 : FunD K "take_route" "Parts.take_route" (defArgs (inClass (top i_Parts) j_Parts_take_route)) (defBody (inClass (top i_Parts) j_Parts_take_route)) (defScope (inClass (top i_Parts) j_Parts_take_route)) [] [] (He.ma K (He.ga K "Parts") "take_route") d59 := F59
  have M_Parts_take_route : Md P w K mg base (He.ga K "Parts") CX0 2 "take_route" ["self", "words"] (spTRoute (He.ga K "Parts")) := ⟨_, _, He.meth_ok (fa 102 (u := .meth "Parts" "take_route") rfl), (ok_tRoute F59 T tTp D57_DTake), F59.bindsN fun _ _ _ _ _ _ us hl => match us, hl with | [_, _], _ => rfl⟩
  obtain ⟨d58, F58⟩ := c.def_ 58 rfl
  have F58 : FunD K "take_rule" "Parts.take_rule" (defArgs (inClass (top i_Parts) j_Parts_take_rule)) (defBody (inClass (top i_Parts) j_Parts_take_rule)) (defScope (inClass (top i_Parts) j_Parts_take_rule)) [] [] (He.ma K (He.ga K "Parts") "take_rule") d58 := F58
  obtain ⟨d7, F7⟩ := c.def_ 7 rfl
  have F7 : FnG K "is_rule" i_is_rule (He.ga K "is_rule") d7 := F7
  obtain ⟨d8, F8⟩ := c.def_ 8 rfl
  have F8 : FnG K "_is_day_rule" i__is_day_rule (He.ga K "_is_day_rule") d8 := F8
  have G_is_day_rule : Df P w K mg base CX0 2 "_is_day_rule" ["words"] spDayRule := df_of F8 (He.glo_ok X G (fa 8 (u := .glo "_is_day_rule") rfl)) (ok_dayRule F8 T D51_DDay) (F8.bindsN fun _ _ _ _ _ _ us hl => match us, hl with | [_], _ => rfl)
  have D67_DIsR : DIsR P w K mg base := ⟨G_is_day_rule⟩
  have G_is_rule : Df P w K mg base CX0 3 "is_rule" ["kind", "rule"] spIsRule := df_of F7 (He.glo_ok X G (fa 7 (u := .glo "is_rule") rfl)) (ok_isRule F7 T R D67_DIsR) (F7.bindsN fun _ _ _ _ _ _ us hl => match us, hl with | [_, _], _ => rfl)
  have D69_DTRule : DTRule P w K mg base := ⟨G_is_kind, G_is_rule⟩
  have M_Parts_take_rule : Md P w K mg base (He.ga K "Parts") CX0 4 "take_rule" ["self", "line"] (spTRule (He.ga K "Parts")) := ⟨_, _, He.meth_ok (fa 101 (u := .meth "Parts" "take_rule") rfl), (ok_tRule F58 T tTp D69_DTRule), F58.bindsN fun _ _ _ _ _ _ us hl => match us, hl with | [_, _], _ => rfl⟩
  have D71_MTake : MTake P w K mg base := ⟨M_Parts_take_zone, M_Parts_take_program, M_Parts_take_route, M_Parts_take_rule⟩
  have M_Parts_take : Md P w K mg base (He.ga K "Parts") CX0 6 "take" ["self", "line"] (spTake (He.ga K "Parts")) := ⟨_, _, He.meth_ok (fa 98 (u := .meth "Parts" "take") rfl), (ok_take F55 T tTp D71_MTake), F55.bindsN fun _ _ _ _ _ _ us hl => match us, hl with | [_, _], _ => rfl⟩
  have D73_DRead : DRead P w K mg base := ⟨(He.mkr_ok (fa 93 (u := .mkr "Parts") rfl)), ⟨d54, (ok_pInit F54 tTp), F54.bindsN fun _ _ _ _ _ _ us hl => match us, hl with | [_], _ => rfl⟩, (He.glo_ok X G (fa 49 (u := .glo "Parts") rfl)), M_Parts_take⟩
  have G_read_parts : Df P w K mg base CX0 8 "read_parts" ["text"] (spRead (He.ga K "Parts")) := df_of F18 (He.glo_ok X G (fa 18 (u := .glo "read_parts") rfl)) (ok_read F18 T tTp D73_DRead) (F18.bindsN fun _ _ _ _ _ _ us hl => match us, hl with | [_], _ => rfl)
  obtain ⟨d19, F19⟩ := c.def_ 19 rfl
  have F19 : FnG K "net_text" i_net_text (He.ga K "net_text") d19 := F19
  obtain ⟨d20, F20⟩ := c.def_ 20 rfl
  have F20 : FnG K "_rule_lines" i__rule_lines (He.ga K "_rule_lines") d20 := F20
  have G_rule_lines : Df P w K mg base CX0 1 "_rule_lines" ["program", "rules"] spRLines := df_of F20 (He.glo_ok X G (fa 20 (u := .glo "_rule_lines") rfl)) (ok_rLines F20 T) (F20.bindsN fun _ _ _ _ _ _ us hl => match us, hl with | [_, _], _ => rfl)
  have D78_DNText : DNText P w K mg base := ⟨G_rule_lines⟩
  have G_net_text : Df P w K mg base CX0 3 "net_text" ["offsets", "homes", "rules", "routes"] (spNText K) := df_of F19 (He.glo_ok X G (fa 19 (u := .glo "net_text") rfl)) (ok_nText F19 T D78_DNText) (F19.bindsN fun _ _ _ _ _ _ us hl => match us, hl with | [_, _, _, _], _ => rfl)
  obtain ⟨d21, F21⟩ := c.def_ 21 rfl
  have F21 : FnG K "_goals_by_start" i__goals_by_start (He.ga K "_goals_by_start") d21 := F21
  have G_goals_by_start : Df P w K mg base CX0 1 "_goals_by_start" ["programs", "routes"] spGoals := df_of F21 (He.glo_ok X G (fa 21 (u := .glo "_goals_by_start") rfl)) (ok_goals F21 T) (F21.bindsN fun _ _ _ _ _ _ us hl => match us, hl with | [_, _], _ => rfl)
  have D82_DNInit : DNInit P w K mg base := ⟨G_read_parts, G_net_text, G_goals_by_start⟩
  obtain ⟨d35, F35⟩ := c.def_ 35 rfl
  have F35 : FnG K "_law_names" i__law_names (He.ga K "_law_names") d35 := F35
  have G_law_names : Df P w K mg base CX0 1 "_law_names" ["_law_net_here"] spNames := df_of F35 (He.glo_ok X G (fa 35 (u := .glo "_law_names") rfl)) (ok_names F35 T) (F35.bindsN fun _ _ _ _ _ _ us hl => match us, hl with | [_], _ => rfl)
  obtain ⟨d39, F39⟩ := c.def_ 39 rfl
  have F39 : FnG K "_law_entry_of" i__law_entry_of (He.ga K "_law_entry_of") d39 := F39
  obtain ⟨d38, F38⟩ := c.def_ 38 rfl
  have F38 : FnG K "_law_minute" i__law_minute (He.ga K "_law_minute") d38 := F38
  obtain ⟨d26, F26⟩ := c.def_ 26 rfl
  have F26 : FnG K "_law_big" i__law_big (He.ga K "_law_big") d26 := F26
  have G_law_big : Df P w K mg base CX0 2 "_law_big" ["_law_pen_here", "_law_many"] spBig := df_of F26 (He.glo_ok X G (fa 26 (u := .glo "_law_big") rfl)) (ok_big F26 T D22_DDraw) (F26.bindsN fun _ _ _ _ _ _ us hl => match us, hl with | [_, _], _ => rfl)
  have D90_DMinute : DMinute P w K mg base := ⟨D22_DDraw, G_law_big⟩
  have G_law_minute : Df P w K mg base CX0 3 "_law_minute" ["_law_pen_here", "_law_step"] spMinute := df_of F38 (He.glo_ok X G (fa 38 (u := .glo "_law_minute") rfl)) (ok_minute F38 T D90_DMinute) (F38.bindsN fun _ _ _ _ _ _ us hl => match us, hl with | [_, _], _ => rfl)
  have D92_DEntOf : DEntOf P w K mg base := ⟨D22_DDraw, G_law_minute⟩
  have G_law_entry_of : Df P w K mg base CX0 4 "_law_entry_of" ["_law_pen_here", "_law_net_here", "_law_kind", "_law_step"] spEntryOf := df_of F39 (He.glo_ok X G (fa 39 (u := .glo "_law_entry_of") rfl)) (ok_lentry F39 T D92_DEntOf) (F39.bindsN fun _ _ _ _ _ _ us hl => match us, hl with | [_, _, _, _], _ => rfl)
  obtain ⟨d40, F40⟩ := c.def_ 40 rfl
  have F40 : FnG K "_law_entry_text" i__law_entry_text (He.ga K "_law_entry_text") d40 := F40
  have G_law_entry_text : Df P w K mg base CX0 1 "_law_entry_text" ["_law_entry"] (spTxt K) := df_of F40 (He.glo_ok X G (fa 40 (u := .glo "_law_entry_text") rfl)) (ok_txt F40 T) (F40.bindsN fun _ _ _ _ _ _ us hl => match us, hl with | [_], _ => rfl)
  obtain ⟨d36, F36⟩ := c.def_ 36 rfl
  have F36 : FnG K "_law_offset_of" i__law_offset_of (He.ga K "_law_offset_of") d36 := F36
  have G_law_offset_of : Df P w K mg base CX0 1 "_law_offset_of" ["_law_net_here", "_law_zone"] spLOff := df_of F36 (He.glo_ok X G (fa 36 (u := .glo "_law_offset_of") rfl)) (ok_loff F36) (F36.bindsN fun _ _ _ _ _ _ us hl => match us, hl with | [_, _], _ => rfl)
  obtain ⟨d37, F37⟩ := c.def_ 37 rfl
  have F37 : FnG K "_law_home" i__law_home (He.ga K "_law_home") d37 := F37
  have G_law_home : Df P w K mg base CX0 1 "_law_home" ["_law_net_here", "_law_p"] spLHome := df_of F37 (He.glo_ok X G (fa 37 (u := .glo "_law_home") rfl)) (ok_lhome F37) (F37.bindsN fun _ _ _ _ _ _ us hl => match us, hl with | [_, _], _ => rfl)
  obtain ⟨d44, F44⟩ := c.def_ 44 rfl
  have F44 : FnG K "_law_shows_right" i__law_shows_right (He.ga K "_law_shows_right") d44 := F44
  obtain ⟨d13, F13⟩ := c.def_ 13 rfl
  have F13 : FnG K "shown" i_shown (He.ga K "shown") d13 := F13
  obtain ⟨d11, F11⟩ := c.def_ 11 rfl
  have F11 : FnG K "need_known" i_need_known (He.ga K "need_known") d11 := F11
  obtain ⟨d62, F62⟩ := c.def_ 62 rfl
  have F62 : FunD K "offset_of" "Net.offset_of" (defArgs (inClass (top i_Net) j_Net_offset_of)) (defBody (inClass (top i_Net) j_Net_offset_of)) (defScope (inClass (top i_Net) j_Net_offset_of)) [] [] (He.ma K (He.ga K "Net") "offset_of") d62 := F62
  obtain ⟨d64, F64⟩ := c.def_ 64 rfl
  have F64 : FunD K "_need_zone" "Net._need_zone" (defArgs (inClass (top i_Net) j_Net__need_zone)) (defBody (inClass (top i_Net) j_Net__need_zone)) (defScope (inClass (top i_Net) j_Net__need_zone)) [] [] (He.ma K (He.ga K "Net") "_need_zone") d64 := F64
  have M_Net_need_zone : Md P w K mg base (He.ga K "Net") CX0 1 "_need_zone" ["self", "zone"] (spNeedZ (He.ga K "Net")) := ⟨_, _, He.meth_ok (fa 116 (u := .meth "Net" "_need_zone") rfl), (ok_needZ F64 T tTn), F64.bindsN fun _ _ _ _ _ _ us hl => match us, hl with | [_, _], _ => rfl⟩
  obtain ⟨d65, F65⟩ := c.def_ 65 rfl
  have F65 : FunD K "_need_program" "Net._need_program" (defArgs (inClass (top i_Net) j_Net__need_program)) (defBody (inClass (top i_Net) j_Net__need_program)) (defScope (inClass (top i_Net) j_Net__need_program)) [] [] (He.ma K (He.ga K "Net") "_need_program") d65 := F65
  have M_Net_need_program : Md P w K mg base (He.ga K "Net") CX0 1 "_need_program" ["self", "p"] (spNeedP (He.ga K "Net")) := ⟨_, _, He.meth_ok (fa 117 (u := .meth "Net" "_need_program") rfl), (ok_needP F65 T tTn), F65.bindsN fun _ _ _ _ _ _ us hl => match us, hl with | [_, _], _ => rfl⟩
  have D108_MNet : MNet P w K mg base := ⟨M_Net_need_zone, M_Net_need_program⟩
  have M_Net_offset_of : Md P w K mg base (He.ga K "Net") CX0 2 "offset_of" ["self", "zone"] (spOffOf (He.ga K "Net")) := ⟨_, _, He.meth_ok (fa 114 (u := .meth "Net" "offset_of") rfl), (ok_offOf F62 tTn D108_MNet), F62.bindsN fun _ _ _ _ _ _ us hl => match us, hl with | [_, _], _ => rfl⟩
  obtain ⟨d63, F63⟩ := c.def_ 63 rfl
  have F63 : FunD K "home_of" "Net.home_of" (defArgs (inClass (top i_Net) j_Net_home_of)) (defBody (inClass (top i_Net) j_Net_home_of)) (defScope (inClass (top i_Net) j_Net_home_of)) [] [] (He.ma K (He.ga K "Net") "home_of") d63 := F63
  have M_Net_home_of : Md P w K mg base (He.ga K "Net") CX0 2 "home_of" ["self", "p"] (spHomeOf (He.ga K "Net")) := ⟨_, _, He.meth_ok (fa 115 (u := .meth "Net" "home_of") rfl), (ok_homeOf F63 tTn D108_MNet), F63.bindsN fun _ _ _ _ _ _ us hl => match us, hl with | [_, _], _ => rfl⟩
  have D112_MN : MN P w K mg base := ⟨M_Net_offset_of, M_Net_home_of⟩
  have G_need_known : Df P w K mg base CX0 3 "need_known" ["net", "p", "entry"] (spKnown (He.ga K "Net") (He.ga K "Entry")) := df_of F11 (He.glo_ok X G (fa 11 (u := .glo "need_known") rfl)) (ok_known F11 T tTn D112_MN) (F11.bindsN fun _ _ _ _ _ _ us hl => match us, hl with | [_, _, _], _ => rfl)
  obtain ⟨d15, F15⟩ := c.def_ 15 rfl
  have F15 : FnG K "_copiers" i__copiers (He.ga K "_copiers") d15 := F15
  obtain ⟨d51, F51⟩ := c.def_ 51 rfl
  have F51 : FunD K "__init__" "Copier.__init__" (defArgs (inClass (top i_Copier) j_Copier___init__)) (defBody (inClass (top i_Copier) j_Copier___init__)) (defScope (inClass (top i_Copier) j_Copier___init__)) [] [] (He.ma K (He.ga K "Copier") "__init__") d51 := F51
  have tTc : Tc K mg := ⟨(He.cls_ok (fa 84 (u := .cls "Copier") rfl)), (He.noat_ok (fa 86 (u := .noat "Copier" "_net") rfl)), (He.noat_ok (fa 87 (u := .noat "Copier" "_end") rfl)), (He.noat_ok (fa 88 (u := .noat "Copier" "_effects") rfl)), (He.noat_ok (fa 89 (u := .noat "Copier" "_leads") rfl))⟩
  have D118_DCops : DCops P w K mg base := ⟨(He.mkr_ok (fa 85 (u := .mkr "Copier") rfl)), ⟨d51, (ok_cInit F51 tTc), F51.bindsN fun _ _ _ _ _ _ us hl => match us, hl with | [_, _, _], _ => rfl⟩, (He.glo_ok X G (fa 48 (u := .glo "Copier") rfl))⟩
  have G_copiers : Df P w K mg base CX0 3 "_copiers" ["net"] (spCopiers P w (He.ga K "Copier")) := df_of F15 (He.glo_ok X G (fa 15 (u := .glo "_copiers") rfl)) (ok_copiers F15 D118_DCops) (F15.bindsN fun _ _ _ _ _ _ us hl => match us, hl with | [_], _ => rfl)
  obtain ⟨d14, F14⟩ := c.def_ 14 rfl
  have F14 : FnG K "minutes_held" i_minutes_held (He.ga K "minutes_held") d14 := F14
  obtain ⟨d9, F9⟩ := c.def_ 9 rfl
  have F9 : FnG K "minutes_of" i_minutes_of (He.ga K "minutes_of") d9 := F9
  have G_minutes_of : Df P w K mg base CX0 1 "minutes_of" ["kind", "value"] spMin := df_of F9 (He.glo_ok X G (fa 9 (u := .glo "minutes_of") rfl)) (ok_min F9 T) (F9.bindsN fun _ _ _ _ _ _ us hl => match us, hl with | [_, _], _ => rfl)
  have D123_DHeld : DHeld P w K mg base := ⟨G_minutes_of⟩
  have G_minutes_held : Df P w K mg base CX0 2 "minutes_held" ["entry"] (spHeld (He.ga K "Entry")) := df_of F14 (He.glo_ok X G (fa 14 (u := .glo "minutes_held") rfl)) (ok_held F14 T D123_DHeld) (F14.bindsN fun _ _ _ _ _ _ us hl => match us, hl with | [_], _ => rfl)
  obtain ⟨d16, F16⟩ := c.def_ 16 rfl
  have F16 : FnG K "_days" i__days (He.ga K "_days") d16 := F16
  obtain ⟨d53, F53⟩ := c.def_ 53 rfl
  have F53 : FunD K "day" "Copier.day" (defArgs (inClass (top i_Copier) j_Copier_day)) (defBody (inClass (top i_Copier) j_Copier_day)) (defScope (inClass (top i_Copier) j_Copier_day)) [] [] (He.ma K (He.ga K "Copier") "day") d53 := F53
  obtain ⟨d52, F52⟩ := c.def_ 52 rfl
  have F52 : FunD K "lead" "Copier.lead" (defArgs (inClass (top i_Copier) j_Copier_lead)) (defBody (inClass (top i_Copier) j_Copier_lead)) (defScope (inClass (top i_Copier) j_Copier_lead)) [] [] (He.ma K (He.ga K "Copier") "lead") d52 := F52
  obtain ⟨d10, F10⟩ := c.def_ 10 rfl
  have F10 : FnG K "clock_lead" i_clock_lead (He.ga K "clock_lead") d10 := F10
  have G_clock_lead : Df P w K mg base CX0 3 "clock_lead" ["net", "p", "kind", "zone"] (spLead (He.ga K "Net")) := df_of F10 (He.glo_ok X G (fa 10 (u := .glo "clock_lead") rfl)) (ok_lead F10 tTn D112_MN) (F10.bindsN fun _ _ _ _ _ _ us hl => match us, hl with | [_, _, _, _], _ => rfl)
  have D130_DCLead : DCLead P w K mg base := ⟨G_clock_lead⟩
  have M_Copier_lead : Md P w K mg base (He.ga K "Copier") CX0 5 "lead" ["self", "p", "kind", "zone"] (spCLead P w (He.ga K "Copier") (He.ga K "Net")) := ⟨_, _, He.meth_ok (fa 90 (u := .meth "Copier" "lead") rfl), (ok_cLead F52 tTc D130_DCLead), F52.bindsN fun _ _ _ _ _ _ us hl => match us, hl with | [_, _, _, _], _ => rfl⟩
  have D132_MCop : MCop P w K mg base := ⟨M_Copier_lead⟩
  have M_Copier_day : Md P w K mg base (He.ga K "Copier") CX0 6 "day" ["self", "p", "kind", "zone", "minutes"] (spDay P w (He.ga K "Copier") (He.ga K "Net")) := ⟨_, _, He.meth_ok (fa 91 (u := .meth "Copier" "day") rfl), (ok_day F53 T tTc D132_MCop), F53.bindsN fun _ _ _ _ _ _ us hl => match us, hl with | [_, _, _, _, _], _ => rfl⟩
  have D134_MDay : MDay P w K mg base := ⟨M_Copier_day⟩
  have G_days : Df P w K mg base CX0 7 "_days" ["copiers", "p", "held"] (spDays P w (He.ga K "Copier") (He.ga K "Net")) := df_of F16 (He.glo_ok X G (fa 16 (u := .glo "_days") rfl)) (ok_days F16 tTc D134_MDay) (F16.bindsN fun _ _ _ _ _ _ us hl => match us, hl with | [_, _, _], _ => rfl)
  have D136_DShown : DShown P w K mg base := ⟨G_need_known, G_copiers, G_minutes_held, G_days⟩
  have G_shown : Df P w K mg base CX0 8 "shown" ["net", "p", "entry"] (spShown (He.ga K "Net") (He.ga K "Entry")) := df_of F13 (He.glo_ok X G (fa 13 (u := .glo "shown") rfl)) (ok_shown F13 D136_DShown) (F13.bindsN fun _ _ _ _ _ _ us hl => match us, hl with | [_, _, _], _ => rfl)
  obtain ⟨d12, F12⟩ := c.def_ 12 rfl
  have F12 : FnG K "clock" i_clock (He.ga K "clock") d12 := F12
  have D139_DClock : DClock P w K mg base := ⟨G_need_known, G_clock_lead⟩
  have G_clock : Df P w K mg base CX0 4 "clock" ["net", "p", "entry"] (spClock (He.ga K "Net") (He.ga K "Entry")) := df_of F12 (He.glo_ok X G (fa 12 (u := .glo "clock") rfl)) (ok_clock F12 T D139_DClock) (F12.bindsN fun _ _ _ _ _ _ us hl => match us, hl with | [_, _, _], _ => rfl)
  obtain ⟨d41, F41⟩ := c.def_ 41 rfl
  have F41 : FnG K "_law_seen" i__law_seen (He.ga K "_law_seen") d41 := F41
  have D142_DSeen : DSeen P w K mg base := ⟨G_law_offset_of, G_law_home⟩
  have G_law_seen : Df P w K mg base CX0 2 "_law_seen" ["_law_net_here", "_law_p", "_law_kind", "_law_value", "_law_zone"] spSeen := df_of F41 (He.glo_ok X G (fa 41 (u := .glo "_law_seen") rfl)) (ok_seen F41 D142_DSeen) (F41.bindsN fun _ _ _ _ _ _ us hl => match us, hl with | [_, _, _, _, _], _ => rfl)
  obtain ⟨d42, F42⟩ := c.def_ 42 rfl
  have F42 : FnG K "_law_whole" i__law_whole (He.ga K "_law_whole") d42 := F42
  have G_law_whole : Df P w K mg base CX0 1 "_law_whole" ["_law_number"] spLWhole := df_of F42 (He.glo_ok X G (fa 42 (u := .glo "_law_whole") rfl)) (ok_lwhole F42 T) (F42.bindsN fun _ _ _ _ _ _ us hl => match us, hl with | [_], _ => rfl)
  have D146_DShowsR : DShowsR P w K mg base (He.ga K "BadText") := ⟨D14_DOf, G_law_entry_text, G_shown, G_clock, G_law_seen, G_law_whole⟩
  have G_law_shows_right : Df P w K mg base CX0 9 "_law_shows_right" ["_law_net_here", "_law_due", "_law_p", "_law_entry"] (spShowsR K (He.ga K "Net")) := df_of F44 (He.glo_ok X G (fa 44 (u := .glo "_law_shows_right") rfl)) (ok_showsR F44 T D146_DShowsR) (F44.bindsN fun _ _ _ _ _ _ us hl => match us, hl with | [_, _, _, _], _ => rfl)
  obtain ⟨d45, F45⟩ := c.def_ 45 rfl
  have F45 : FnG K "_law_refused" i__law_refused (He.ga K "_law_refused") d45 := F45
  obtain ⟨d66, F66⟩ := c.def_ 66 rfl
  have F66 : FunD K "__init__" "NoProgram.__init__" (defArgs (inClass (top i_NoProgram) j_NoProgram___init__)) (defBody (inClass (top i_NoProgram) j_NoProgram___init__)) (defScope (inClass (top i_NoProgram) j_NoProgram___init__)) [] [] (He.ma K (He.ga K "NoProgram") "__init__") d66 := F66
  have e_NoProgram := errC_of (tq 5 _ rfl) (tq 9 _ rfl)
  obtain ⟨i1_NoProgram, i2_NoProgram, i3_NoProgram, i4_NoProgram⟩ := iniB_ok (tq 6 _ rfl)
  have i5_NoProgram := oexC_of e_NoProgram.be i1_NoProgram
  have i6_NoProgram := ok_NoProgram (P := P) (w := w) (mg := mg) (base := base) F66 i5_NoProgram i2_NoProgram
  have ER_NoProgram : Er P w K mg base "NoProgram" "name" (He.ga K "NoProgram") := ⟨He.glo_ok X G (fa 118 (u := .glo "NoProgram") rfl), i5_NoProgram, e_NoProgram, i2_NoProgram, He.exm_ok (fa 119 (u := .exm "NoProgram" "NoProgram" true) rfl), ⟨_, _, i3_NoProgram, i4_NoProgram, i6_NoProgram.1, i6_NoProgram.2⟩⟩
  obtain ⟨d67, F67⟩ := c.def_ 67 rfl
  have F67 : FunD K "__init__" "NoZone.__init__" (defArgs (inClass (top i_NoZone) j_NoZone___init__)) (defBody (inClass (top i_NoZone) j_NoZone___init__)) (defScope (inClass (top i_NoZone) j_NoZone___init__)) [] [] (He.ma K (He.ga K "NoZone") "__init__") d67 := F67
  have e_NoZone := errC_of (tq 7 _ rfl) (tq 9 _ rfl)
  obtain ⟨i1_NoZone, i2_NoZone, i3_NoZone, i4_NoZone⟩ := iniB_ok (tq 8 _ rfl)
  have i5_NoZone := oexC_of e_NoZone.be i1_NoZone
  have i6_NoZone := ok_NoZone (P := P) (w := w) (mg := mg) (base := base) F67 i5_NoZone i2_NoZone
  have ER_NoZone : Er P w K mg base "NoZone" "name" (He.ga K "NoZone") := ⟨He.glo_ok X G (fa 120 (u := .glo "NoZone") rfl), i5_NoZone, e_NoZone, i2_NoZone, He.exm_ok (fa 121 (u := .exm "NoZone" "NoZone" true) rfl), ⟨_, _, i3_NoZone, i4_NoZone, i6_NoZone.1, i6_NoZone.2⟩⟩
  have g153_Tm : Tm K mg (He.ga K "NoProgram") (He.ga K "NoZone") := ⟨(of_decide_eq_true (tq 10 _ rfl)), (of_decide_eq_true (tq 11 _ rfl)), (of_decide_eq_true (tq 12 _ rfl)), (He.glo_ok X G (fa 122 (u := .glo "WhosedayError") rfl))⟩
  have M_Net_need_zone_E : Md P w K mg base (He.ga K "Net") (L2.CX P w) 3 "_need_zone" ["self", "zone"] (spNeedZE (He.ga K "Net") (He.ga K "NoZone")) := ⟨_, _, He.meth_ok (fa 116 (u := .meth "Net" "_need_zone") rfl), (okE_needZ F64 T tTn ER_NoZone), F64.bindsN fun _ _ _ _ _ _ us hl => match us, hl with | [_, _], _ => rfl⟩
  have D155_DOffE : DOffE P w K mg base (He.ga K "NoZone") := ⟨M_Net_need_zone_E⟩
  have M_Net_offset_of_E : Md P w K mg base (He.ga K "Net") (L2.CX P w) 4 "offset_of" ["self", "zone"] (spOffOfE (He.ga K "Net") (He.ga K "NoZone")) := ⟨_, _, He.meth_ok (fa 114 (u := .meth "Net" "offset_of") rfl), (okE_offOf F62 tTn D155_DOffE), F62.bindsN fun _ _ _ _ _ _ us hl => match us, hl with | [_, _], _ => rfl⟩
  have M_Net_need_program_E : Md P w K mg base (He.ga K "Net") (L2.CX P w) 3 "_need_program" ["self", "p"] (spNeedPE (He.ga K "Net") (He.ga K "NoProgram")) := ⟨_, _, He.meth_ok (fa 117 (u := .meth "Net" "_need_program") rfl), (okE_needP F65 T tTn ER_NoProgram), F65.bindsN fun _ _ _ _ _ _ us hl => match us, hl with | [_, _], _ => rfl⟩
  have D158_DHomeE : DHomeE P w K mg base (He.ga K "NoProgram") := ⟨M_Net_need_program_E⟩
  have M_Net_home_of_E : Md P w K mg base (He.ga K "Net") (L2.CX P w) 4 "home_of" ["self", "p"] (spHomeOfE (He.ga K "Net") (He.ga K "NoProgram")) := ⟨_, _, He.meth_ok (fa 115 (u := .meth "Net" "home_of") rfl), (okE_homeOf F63 tTn D158_DHomeE), F63.bindsN fun _ _ _ _ _ _ us hl => match us, hl with | [_, _], _ => rfl⟩
  have D160_MNE : MNE P w K mg base (He.ga K "NoProgram") (He.ga K "NoZone") := ⟨M_Net_offset_of_E, M_Net_home_of_E⟩
  have G_need_known_E : Df P w K mg base (L2.CX P w) 5 "need_known" ["net", "p", "entry"] (spKnownE (He.ga K "Net") (He.ga K "Entry") (He.ga K "NoProgram") (He.ga K "NoZone")) := df_of F11 (He.glo_ok X G (fa 11 (u := .glo "need_known") rfl)) (okE_known F11 T tTn D160_MNE) (F11.bindsN fun _ _ _ _ _ _ us hl => match us, hl with | [_, _, _], _ => rfl)
  have D162_DShownE : DShownE P w K mg base (He.ga K "NoProgram") (He.ga K "NoZone") := ⟨G_need_known_E, G_copiers, G_minutes_held, G_days⟩
  have G_shown_E : Df P w K mg base (L2.CX P w) 8 "shown" ["net", "p", "entry"] (spKnownE (He.ga K "Net") (He.ga K "Entry") (He.ga K "NoProgram") (He.ga K "NoZone")) := df_of F13 (He.glo_ok X G (fa 13 (u := .glo "shown") rfl)) (okE_shown F13 D162_DShownE) (F13.bindsN fun _ _ _ _ _ _ us hl => match us, hl with | [_, _, _], _ => rfl)
  have D164_DClockE : DClockE P w K mg base (He.ga K "NoProgram") (He.ga K "NoZone") := ⟨G_need_known_E, G_clock_lead⟩
  have G_clock_E : Df P w K mg base (L2.CX P w) 8 "clock" ["net", "p", "entry"] (spKnownE (He.ga K "Net") (He.ga K "Entry") (He.ga K "NoProgram") (He.ga K "NoZone")) := df_of F12 (He.glo_ok X G (fa 12 (u := .glo "clock") rfl)) (okE_clock F12 T D164_DClockE) (F12.bindsN fun _ _ _ _ _ _ us hl => match us, hl with | [_, _, _], _ => rfl)
  obtain ⟨d43, F43⟩ := c.def_ 43 rfl
  have F43 : FnG K "_law_met" i__law_met (He.ga K "_law_met") d43 := F43
  have D167_DLRef : DLRef P w K mg base (He.ga K "BadText") (He.ga K "NoProgram") (He.ga K "NoZone") := ⟨D14_DOf, G_law_draw, G_law_pick, G_law_entry_text, G_shown_E, G_clock_E, ⟨_, ⟨F43, He.glo_ok X G (fa 43 (u := .glo "_law_met") rfl)⟩⟩, (He.free_ok X G (fa 63 (u := .free "all") rfl))⟩
  have G_law_refused : Df P w K mg base CX0 12 "_law_refused" ["_law_pen_here", "_law_net_here", "_law_p", "_law_entry"] (spLRef K (He.ga K "Net")) := df_of F45 (He.glo_ok X G (fa 45 (u := .glo "_law_refused") rfl)) (ok_lref F45 T ER_NoProgram ER_NoZone g153_Tm D167_DLRef (hTB _ (List.mem_map.mpr ⟨("_law_refused", none), (by decide +kernel), rfl⟩))) (F45.bindsN fun _ _ _ _ _ _ us hl => match us, hl with | [_, _, _, _], _ => rfl)
  have D169_DLaw : DLaw P w K mg base (He.ga K "BadText") := ⟨D14_DOf, G_law_draw, G_law_pick, G_law_pen, G_law_net, G_law_net_text, (He.mkr_ok (fa 104 (u := .mkr "Net") rfl)), ⟨d60, (ok_nInit F60 T tTp tTn D82_DNInit), F60.bindsN fun _ _ _ _ _ _ us hl => match us, hl with | [_, _], _ => rfl⟩, (He.glo_ok X G (fa 50 (u := .glo "Net") rfl)), G_law_names, G_law_entry_of, G_law_entry_text, G_law_offset_of, G_law_home, G_law_shows_right, G_law_refused, G_clock⟩
  exact (ok_law F46 T tTn D169_DLaw)
end
end Wd
end
section
set_option Elab.async false
set_option linter.all false
set_option maxRecDepth 100000
open PySem PySem.W PySem.Calls PyProof.Rows
set_option maxHeartbeats 0 in
theorem PySem.Challenge.cw_whoseday_k05_clocks_and_days_are_shown_holds : PySem.Challenge.rw_whoseday_k05_clocks_and_days_are_shown.Holds := by
  w_on; o_law
  refine HandSHeadRun.head_any (r := Wd.R) (q := view Wd.R.prog [76]) (H := Wd.hk) (ob := Wd.ob) (M := 12000) (loose := Wd.names) (d := HandSHeadRun.topDef Wd.R.prog 76) (kwd := []) Wd.ob_eq
    (by kernel_rfl) (fun s => by kernel_rfl) Wd.run (by kernel_rfl) (by kernel_rfl) (by kernel_rfl) (by rfl) (by first | assumption | decide +kernel) (by decide +kernel) ⟨rfl, rfl, rfl, rfl, rfl, by decide +kernel⟩ ?hw ?hc
  case hw => w_witness2
  case hc =>
    refine LamX.walk_ofTsE (l := PySem.Challenge.rw_whoseday_k05_clocks_and_days_are_shown) (n := 63) (k := 14) (x := "_law_script") (CX := fun _ => L2.CX0) rfl (by decide) (by kernel_rfl) ⟨rfl, by decide, by decide⟩ ?F (fun _ _ _ _ _ z => z)
    intro w mg fa h Y G hmg0
    obtain ⟨K, KX, c⟩ := Y
    have hmg : mg ("law" : PySem.Str) = some (.ref fa) := by
      have e : (HandSHeadRun.topDef Wd.R.prog 76).name = ("law" : PySem.Str) := by kernel_rfl
      rw [← e]
      exact hmg0
    obtain ⟨fd, hb, hF⟩ := Wd.facts (P := (PySem.Challenge.rw_whoseday_k05_clocks_and_days_are_shown).prog) (w := w) KX G hmg c.u
    have inT : ∀ p ∈ Wd.tf.map (He.cT K), ∃ d ∈ Wd.tf, He.cT K d = p := fun p hp => List.mem_map.mp hp
    refine ⟨K, KX, fd, Wd.tf.map (He.cT K), Wd.spLawT K, ?_, ?_, ?_, hb, fun H a ns hl _ hT hS => ⟨a, ns, rfl, hS, hl, ?_, fun _ => rfl⟩, hF⟩
    · intro p hp
      obtain ⟨d, hd, rfl⟩ := inT p hp
      exact c.empty d hd
    · intro p hp
      obtain ⟨d, hd, rfl⟩ := inT p hp
      exact c.out d hd
    · intro p hp
      obtain ⟨d, hd, rfl⟩ := inT p hp
      exact PySem.W.codeHd_of_K KX (c.hd d hd)
    · exact Wd.tabs0 hT
end
