import PyProof.Rows.All
import Wide.All
import OpenK.AllK
import Wide.FinOn
import KE.KStateDown
import KE.KExcIs
import KE.KIsAll
import HandS.ForMost
import HandS.ForExc
import HandS.ExcInit
import HandS.ExcValue
import HandS.IsInst
import HandS.Wide
import HandS.Defaults
import HandS.Small
import HandS.Head0
import HandS.Head1
import HandS.Head2
import HandS.HeadEnd
import HandS.HeadHook1
import HandS.HeadHook2
import HandS.NoneIn
import HandS.Conv
import HandS.Star
import HandS.Walk
import HandS.TupAny
import HandS.Deep
import HandS.Style
import KE.GoesEnumKw
import HandS.SortKw
import HandS.TupLen
import KE.KDictList
import HandS.Records
import KE.KUnpack
import HandS.HeadHook3
import HandS.HeadHook4
import HandS.Exc
import HandS.Head3
import Wide.Once
import HandS.StrMore
import KE.IntTextLaws
import HandS.ClsMeth
import HandS.WrittenGet
import HandS.DictComp
import KE.KDictDisplayH
import KE.GoesMore
import KE.GoesEnum
import HandS.SetBool
import HandS.Strs
import PyProof.SetRoads
import HandS.WordsExc
import HandS.ExcField
import HandS.OwnIter
import HandS.IterVal
import PyProof.LongRange
import HandS.TryMany
import HandS.TryOnly
import HandS.Lambda
import HandS.NestedK
import HandS.HeadWalk
import PySem.Challenge.RW_whoseday_k24_pieces_that_are_none_and_se
section
set_option Elab.async false
set_option linter.all false
set_option maxRecDepth 100000
set_option maxHeartbeats 4000000
/-! Errors as values: made, kept, read, asked for their class. -/
namespace Wd
open PySem PySem.Spec PyProof.Rows L2
section
variable {X : Cx} {x f : Str} {e : Expr} {es : List Expr} {te : TE} {ta : TA} {p pos : Pos}
/-- what is asked of a class of errors with an __init__ of its own, when one is made and kept -/
def tErr (C : Addr) (sp : Sp) (ta : TA) : TE := fun σ H Q =>
  ta σ H fun vs H1 => vs.length ≤ 1000 ∧
    ∀ a, H1 a = none → sp (.ref a :: vs) (upd H1 a (exo a C none)) (fun v H2 => v = .non ∧ Q (.ref a) H2) (fun _ _ _ => False)
theorem pe_err {CX : CXT} {C fI : Addr} {k : Nat} {fd : FuncData} {ps : List Str} {sp : Sp} (T : OexC X.K C)
    (iC : PySem.W.findIn X.K (.ref C) "__init__" = some (some (.ref fI)))
    (tI : PySem.W.typeIn X.K (.ref fI) = some (.type "function"))
    (G : FnOk X.prog X.w X.K X.mg X.base CX k fI fd ps sp) (hr : Room (k + 1) X.A) (hb : Binds X.K fd ps [])
    (hx : Passes CX X (fun _ _ _ => False)) (hg : Gl X x) (hm : X.mg x = some (.ref C)) (ha : PA X (e :: es) ta)
    (hdb : (x == ("__debug__" : Str)) = false := by decide)
    (he : starEach (e :: es) X.env = (false, eval e X.env) :: starEach es X.env := by rfl)
    (hpl : (backTo pos (starEach es X.env)).any (·.1) = false := by rfl) :
    PE X (.Call (.Name x p) (e :: es) [] pos) (tErr C sp ta) := by
  constructor
  intro pins s σ H Q I h
  obtain ⟨nm, q, N, bs, bm, sn, sub, ab, col, dd, k0, k1, k2, k3, k5, lC, tail⟩ := T.cls
  apply wpAny_Call_Name_kw
  apply ld_glob I hg hm _ hdb
  refine PySem.W.callWith_K (h₀ := X.base) I.ok.mod.kin T.kC
    (thn (ha.run pos pins s σ H _ I h) fun us s1 ⟨vs, H1, I1, rv, small, q1⟩ => ?_) he hpl
  refine ⟨I1.kIn, ?_⟩
  show wpAny _ _ (call (.ref C) us) _ _ _
  obtain ⟨hp, g, dr, tk, os⟩ := s1
  have up : hp.objs.size ≤ hp.objs.size + 1 := Nat.le_succ _
  have hn : H1 (hp.objs.size + 1) = none := I1.hok.fresh up
  have hq := q1 (hp.objs.size + 1) hn
  have there : ((hp.push (PySem.W.kdv_tup us)).push (PySem.HandSPX.excO C hp.objs.size)).get? (hp.objs.size + 1)
      = some (PySem.HandSPX.excO C hp.objs.size) := by heap_get
  have I2 := I1.laid (t' := tk) (a := hp.objs.size + 1) (o := exo (hp.objs.size + 1) C none)
    (h' := (hp.push (PySem.W.kdv_tup us)).push (PySem.HandSPX.excO C hp.objs.size))
    (fun b o z => Heap.get?_push_of_some _ (Heap.get?_push_of_some _ z)) up (exo_ok there)
  have r2 : Vals (V.ref (hp.objs.size + 1) :: vs) (Value.ref (hp.objs.size + 1) :: us) := .cons rfl rv
  have hl : (Value.ref (hp.objs.size + 1) :: us ++ []).length = ps.length := by
    rw [List.append_nil]
    have z := r2.length
    rw [G.len _ _ _ _ hq] at z
    exact z.symm
  have fits : us.length ≤ sizeLine := by
    rw [← Paired.length rv, sizeLine_eq]
    omega
  have bd := hb ⟨(hp.push (PySem.W.kdv_tup us)).push (PySem.HandSPX.excO C hp.objs.size), g, dr, tk, os⟩
    (Value.ref (hp.objs.size + 1) :: us) I2.kIn hl
  rw [List.append_nil] at bd
  apply wpAny_call
  refine PySem.HandSPX.call_own F.excBase_ValueError (fun Y => PySem.HandSPX.refsVE_contains Y bm tail)
    (I1.kIn _ _ lC) (PySem.W.looks_findIn I1.kIn iC) (fun self => PySem.W.bind_fn I1.kIn self tI) fits
    (codeAny_mono (G.run _ X.stack _ _ ⟨Value.ref (hp.objs.size + 1) :: us, []⟩ (Value.ref (hp.objs.size + 1) :: us)
      _ _ (fun _ _ _ => False) (hr.make C us []) (I2.env0.make C us []) bd r2 hq) ?_)
  intro r s' z
  cases r with
  | error er => exact hx pins σ _ _ er s' I2 z
  | ok fl =>
    cases fl with
    | next => exact False.elim z
    | brk => exact False.elim z
    | cont => exact False.elim z
    | ret u =>
      obtain ⟨v, H3, I3, rv3, ev, q3⟩ := I2.after z
      subst ev
      exact ⟨rv3, V.ref (hp.objs.size + 1), H3, I3, rfl, q3⟩
/-- an error of a class without an __init__ of its own -/
def tErr0 (C : Addr) : TE := fun _ H Q => ∀ a, H a = none → Q (.ref a) (upd H a (exo a C none))
theorem pe_err0 {C : Addr} (q : PySem.W.excIn X.K C He.veBase "ValueError.__new__" = true)
    (gC : X.mg x = some (.ref C)) (kC : PySem.W.keepIn X.K (.ref C) = true) (hg : Gl X x)
    (hdb : (x == ("__debug__" : Str)) = false := by decide) : PE X (.Call (.Name x p) [] [] pos) (tErr0 C) := by
  constructor
  intro pins s σ H Q I h
  apply wpAny_Call_Name_kw
  apply ld_glob I hg gC _ hdb
  refine PySem.W.callWith_K0 I.kIn kC ?_
  show wpAny _ _ (call (.ref C) []) _ _ _
  obtain ⟨bm, N, nm, qn, bs, hdct, sn, sub, ab, col, dd, k0, k1, k2, k3, k5, mN, hC, hN, hni, T⟩ := exc_obj I.kIn q
  refine wpAny_call_exc_subT F.excBase_ValueError T hC hN hni (fun h' a hm => ?_) (Nat.zero_le _)
  have hn : H a = none := I.hok.gone hm.new
  obtain ⟨t, ht, _, _⟩ := hm.there
  exact ⟨.ref a, _, I.laidN hm.keeps hm.new hn (exo_ok ht), rfl, h a hn⟩
/-- what the class at C says, so that its errors may be read and asked -/
structure ErrC (K : PySem.W.Frag) (C : Addr) : Prop where
  isC : (PySem.W.clsIn K C).isSome = true
  ga : PySem.W.findIn K (.ref C) "__getattribute__" = some (some (.builtin "BaseException.__getattribute__"))
  gg : PySem.W.findIn K (.ref C) "__getattr__" = some none
  be : PySem.W.subIn K (.ref C) (.type "BaseException") = some true
  hd : PySem.W.hasDictIn K C = true
  cc : PySem.W.findIn K (.ref C) "__class__" = some (some (.builtin "object.__class__"))
  cg : PySem.W.specialIn K (.builtin "object.__class__") "__get__" = some (some (.builtin "getset_descriptor.__get__"))
  ct : PySem.W.takesIn K (.builtin "object.__class__") = some true
  ob : PySem.W.mroIn K C (.type "object") = some true
/-- at a an error of the class at C, with a dict of these fields, or with none -/
def ErrAt (C a : Addr) (fs : List (Str × V)) (H : Hp) : Prop :=
  (H a = some (exo a C none) ∧ fs = []) ∨ ∃ d, H a = some (exo a C (some d)) ∧ H d = some (exd d fs)
theorem ErrAt.inst {C a : Addr} {fs : List (Str × V)} {pins : List (Addr × Obj)} {σ : L2.St} {H : Hp} {s : Shared} (I : L2.Inv X pins σ H s) (h : ErrAt C a fs H) :
    ∃ ox od, PySem.W.InstAt s.heap a ox C od ∧ ∀ v, fs.lookup f = some v → ∃ o u, od = some o ∧ PySem.W.lookIn f o = some (some u) ∧ RelV v u := by
  rcases h with ⟨ha, rfl⟩ | ⟨d, ha, hd⟩
  · obtain ⟨t1, ho⟩ := exo_at I.hok ha
    exact ⟨_, none, ⟨ho, rfl, rfl, True.intro⟩, fun v z => nomatch z⟩
  · obtain ⟨t1, ho⟩ := exo_at I.hok ha
    obtain ⟨mA, hns, rel⟩ := exd_at I.hok hd
    obtain ⟨od, hod, hl⟩ := lookIn_ns hns
    refine ⟨_, some od, ⟨ho, rfl, rfl, hod⟩, fun v z => ?_⟩
    have r := rel f
    rw [z] at r
    cases hm : mA f with
    | none =>
      rw [hm] at r
      exact r.elim
    | some u =>
      rw [hm] at r
      exact ⟨od, u, rfl, by rw [hl, hm], r⟩
/-- e.f of an error that is kept -/
def tErrF (K : PySem.W.Frag) (f : Str) (te : TE) : TE := fun σ H Q =>
  te σ H fun x H1 => ∃ a C fs v, x = .ref a ∧ ErrC K C ∧ PySem.W.findIn K (.ref C) f = some none ∧ ErrAt C a fs H1 ∧ fs.lookup f = some v ∧ Q v H1
theorem pe_errF (he : PE X e te) (hb : attributeBase e f X.env (eval e X.env) = eval e X.env := by rfl) :
    PE X (.Attribute e f pos) (tErrF X.K f te) := by
  constructor
  intro pins s σ H Q I h
  apply attr_of hb
  refine thn (he.run pins s σ H _ I h) fun w s1 ⟨y, H1, I1, ry, a, C, fs, v, ex, T, hno, at_, hv, q⟩ => ?_
  subst ex
  obtain rfl : w = Value.ref a := ry
  obtain ⟨ox, od, J, look⟩ := at_.inst (f := f) I1
  obtain ⟨o, u, rfl, lu, ru⟩ := look v hv
  exact PySem.HandSPX.exc_get I1.kIn J T.ga T.gg T.be (PySem.W.findObj_own T.hd hno rfl lu) (handed_of ru)
    ⟨v, H1, I1.tok _, ru, q⟩
/-- isinstance(e, c) of an error that is kept -/
def rErrIs (K : PySem.W.Frag) : List V → Hp → VK → Prop := fun xs H Q =>
  ∃ (a C : Addr) (fs : List (Str × V)) (c : V) (u : Value) (b : Bool), xs = [.ref a, c] ∧ ErrC K C ∧ ErrAt C a fs H ∧ ClsV c u ∧
    PySem.W.kitOne K (.ref C) u = some b ∧ Q (.bl b) H
theorem call_errIs : CallR X (.builtin "isinstance") (rErrIs X.K) := by
  intro pins s σ H xs us Q I r h
  obtain ⟨a, C, fs, c, u, b, rfl, T, at_, k, e, q⟩ := h
  obtain ⟨u1, u2, rfl, r1, r2⟩ := vals2 r
  obtain rfl : u1 = Value.ref a := r1
  obtain rfl := k.eq r2
  obtain ⟨ox, od, J, _⟩ := at_.inst (f := "x") I
  exact PySem.W.kia_one (PySem.W.kitx_exc T.isC T.ga T.gg T.be T.cc T.cg T.ct T.ob) I.kIn J e (fun z => nomatch z)
    fun tk => ⟨.bl b, H, I.tok tk, rfl, q⟩
end
end Wd
end
section
set_option Elab.async false
set_option linter.all false
set_option maxRecDepth 100000
set_option maxHeartbeats 4000000
namespace Wd
open PySem PySem.Spec PyProof.Rows L2
section
variable {X : Cx}
theorem bound_ne {M : Model} {A : Around} {E : Value → Shared → Prop} {s : Shared} {K : PySem.W.Frag} {a C : Addr} {ox : Obj} {od : Option Obj} {args : List Value} {Q : Option Value → Shared → Prop}
    (kin : K.In s.heap) (J : PySem.W.InstAt s.heap a ox C od)
    (hn : PySem.W.findIn K (.ref C) "__ne__" = some (some (.builtin "object.__ne__")))
    (h : wpAny M A (call (.builtin "object.__ne__") (.ref a :: args)) (fun v => Q (some v)) E s) :
    wpAny M A (callSpecialIfBound? (.ref a) "__ne__" args) Q E s := by
  have last : wpAny M A (call (.builtin "object.__ne__") ([.ref a] ++ args) >>= fun v => pure (some v)) Q E s :=
    wpAny_bind (wpAny_mono h (fun _ _ z => wpAny_pure z) fun _ _ z => z)
  unfold callSpecialIfBound? bindSpecialIfBound?
  refine wpAny_holding ?_
  refine wpAny_bind (wpAny_bind (wpAny_bind ?_))
  refine J.type.here ((PySem.W.looks_findIn kin hn).here ?_)
  refine wpAny_bind (wpAny_askSetting (wpAny_ite ?_))
  split
  · refine wpAny_bind (wpAny_of_eq (PySem.F.cmp_object.ne.bind _) ?_)
    exact wpAny_pure (by exact last)
  · refine wpAny_tryCatch (wpAny_bind (wpAny_of_eq (PySem.F.cmp_object.ne.bind _) ?_))
    exact wpAny_pure (by exact last)
/-- x != y of two instances of one class that has an == of its own -/
def rNeO (C : Addr) (sp : Sp) : R2 := fun x y H Q =>
  ∃ a b dx dy fs gs, x = .ref a ∧ y = .ref b ∧ H a = some (.ins C dx fs) ∧ H b = some (.ins C dy gs) ∧
    sp [.ref a, .ref b] H (fun v H' => ∃ t, v = .bl t ∧ Q (.bl (!t)) H') (fun _ _ _ => False)
theorem op_neO {CX : CXT} {C f : Addr} {k : Nat} {fd : FuncData} {ps : List Str} {sp : Sp}
    (G : FnOk X.prog X.w X.K X.mg X.base CX k f fd ps sp) (hr : Room (k + 2) X.A)
    (he : PySem.W.findIn X.K (.ref C) "__eq__" = some (some (.ref f)))
    (hn : PySem.W.findIn X.K (.ref C) "__ne__" = some (some (.builtin "object.__ne__")))
    (hm : PySem.W.mroIn X.K C (.type "object") = some true) (hf : PySem.W.isFn X.K (.ref f) = true)
    (hb : Binds X.K fd ps []) (hx : Passes CX X (fun _ _ _ => False)) : OpR X (compareOp .NotEq) (rNeO C sp) := by
  intro pins s σ H x y v u Q I rx ry h
  obtain ⟨a, b, dx, dy, fs, gs, rfl, rfl, ha, hb', q⟩ := h
  obtain rfl : v = Value.ref a := rx
  obtain rfl : u = Value.ref b := ry
  obtain ⟨mA, J, _⟩ := ins_get I.hok ha
  obtain ⟨mB, J', _⟩ := ins_get I.hok hb'
  obtain ⟨od, J, _⟩ := J.look
  obtain ⟨od', J', _⟩ := J'.look
  have env : Env0 X.prog X.w X.K X.mg X.base X.A.in1 X.stack s H := by
    have e := I.env0
    exact ⟨e.frames, e.mod, e.bs, e.bsz, e.funs, e.frf, e.hok, e.bare⟩
  have hl := G.len _ _ _ _ q
  have bd := hb s [.ref a, .ref b] I.kIn (by simpa using hl)
  rw [List.append_nil] at bd
  have inner : wpAny (model X.prog X.w) X.A.in1 (call (.ref f) [.ref a, .ref b])
      (fun r s' => ∃ t, r = .bool t ∧ EP X pins σ Q (.bool (!t)) s') X.xe s := by
    refine wpAny_call (codeAny_mono (G.run X.A.in1 X.stack s H ⟨[.ref a, .ref b], []⟩ [.ref a, .ref b] [.ref a, .ref b]
      _ _ (hr.mono (by omega) : Room (k + 1) X.A).in1 env bd (.cons rfl (.cons rfl .nil)) q) ?_)
    intro r s' z
    cases r with
    | error er => exact hx pins σ H s er s' I z
    | ok fl =>
      cases fl with
      | next => exact False.elim z
      | brk => exact False.elim z
      | cont => exact False.elim z
      | ret w =>
        obtain ⟨z1, H2, I2, r2, t, rfl, q2⟩ := I.after z
        obtain rfl : w = Value.bool t := r2
        exact ⟨t, rfl, .bl (!t), H2, I2, rfl, q2⟩
  have hu1 : X.A.in1.units < cLine := ((hr.mono (by omega) : Room 1 X.A).in1).units0
  have one : wpAny (model X.prog X.w) X.A (tryCompare (.ref a) "__ne__" (.ref b))
      (fun r s' => ∃ t, r = some (.bool t) ∧ EP X pins σ Q (.bool t) s') X.xe s := by
    unfold tryCompare
    refine wpAny_bind (bound_ne I.kIn J hn ?_)
    refine wpAny_call (codeAny_call_builtin PySem.F.cmp_object.ne.plain PySem.F.cmpEntry_ne ?_)
    refine PySem.W.check_slot PySem.F.cmpKind_ne PySem.F.cmpSplit_ne (J.type.andThen (PySem.W.looks_mroIn I.kIn hm)) (PySem.F.cmpArgs_ne _ _) ?_
    unfold Builtin.«object.__ne__»
    repeat (first
      | with_reducible refine wpAny_cRoomFor hu1 ?_
      | (refine wpAny_bind (m := callSpecialIfBound? (.ref a) (PySem.Str.ofString "__eq__") [.ref b])
          (PySem.W.ifBound_K I.kIn J he hf (wpAny_mono inner (fun r s' z => ?_) fun _ _ z => z))
         obtain ⟨t, rfl, z⟩ := z)
      | wp_step)
    exact ⟨!t, rfl, z⟩
  have same : PySem.W.notFirst X.K C (.ref C) = true := by simp [PySem.W.notFirst]
  show wpAny (model X.prog X.w) X.A (richCompare .NotEq (.ref a) (.ref b)) (EP X pins σ Q) X.xe s
  unfold richCompare
  simp only [oneThing_ref]
  refine wpAny_holding (wpAny_bind (wpAny_cRoomFor hr.units0 ?_))
  rw [cmpInfo_NotEq]
  dsimp only
  refine wpAny_bind (J.type.here (wpAny_bind (J'.type.here ?_)))
  rw [show (Value.ref C != Value.ref C) = false from by simp]
  simp only [Bool.false_eq_true, if_false]
  refine wpAny_bind (wpAny_pure ?_)
  simp only [Bool.false_eq_true, if_false]
  refine wpAny_bind (wpAny_mono one (fun r s' z => ?_) fun _ _ z => z)
  obtain ⟨t, rfl, z⟩ := z
  first | exact wpAny_pure z | exact wpAny_pure (wpAny_pure z)
end
end Wd
end
section
set_option Elab.async false
set_option linter.all false
set_option maxRecDepth 100000
set_option maxHeartbeats 4000000
/-! Dicts whose keys are tuples in which None may stand. -/
namespace Wd
open PySem PySem.Spec PyProof.Rows L2
abbrev OKey := Option Key
def oKV : OKey → V
  | none => .non
  | some k => kV k
theorem oKV_is {P : Program} {w : World} {k : OKey} {u : Value} (r : RelV (oKV k) u) : (noneKind P w).is k u = true := by
  cases k with
  | none =>
    obtain rfl : u = Value.none := r
    rfl
  | some k => exact kV_is (P := P) (w := w) r
theorem oItems {P : Program} {w : World} : ∀ {ks : List OKey} {us : List Value}, Vals (ks.map oKV) us → ItemsAre (noneKind P w) ks us
  | [], _, r => by rw [List.map_nil] at r; cases r; exact .nil
  | k :: ks, _, r => by
    rw [List.map_cons] at r
    cases r with
    | cons h t => exact .cons (oKV_is h) (oItems t)
abbrev ORow := List OKey × Addr × V
/-- what the object at a is: a dict of these keys, key tuples and values -/
def odP (P : Program) (w : World) (a : Addr) (kvs : List ORow) : Heap → Prop := fun h =>
  (a == sysModules) = false ∧ kvs.length ≤ sizeLine ∧ ∃ xs : List (List OKey × Addr × Value), Paired (fun (p : ORow) q => p.1 = q.1 ∧ p.2.1 = q.2.1 ∧ RelV p.2.2 q.2.2) kvs xs ∧
    ∃ o es ep, h.get? a = some o ∧ o.ExactDict ∧ o.data = .dict es ep ∧ es.toList = xs.map (entryOfKey (tupleKind (noneKind P w))) ∧ (xs.map (·.1)).Nodup
def odO (P : Program) (w : World) (a : Addr) (kvs : List ORow) : HO := .ext (odP P w a kvs)
/-- a dict of this kind at a -/
structure OD (P : Program) (w : World) (H : Hp) (a : Addr) (kvs : List ORow) : Prop where
  at_ : H a = some (odO P w a kvs)
  keys : ∀ x ∈ kvs, H x.2.1 = some (.tup (x.1.map oKV))
def oVal (kvs : List ORow) (k : List OKey) : Option V := (kvs.find? fun x => decide (x.1 = k)).map (·.2.2)
theorem od_ok {P : Program} {w : World} {H : Hp} {h : Heap} {a : Addr} {kvs : List ORow} (p : odP P w a kvs h) : ObjOk P w H h a (odO P w a kvs) := by
  refine ⟨p, ?_, fun h1 h2 q st => ?_⟩
  · obtain ⟨_, _, xs, _, o, es, ep, ho, _⟩ := p
    exact ⟨o, ho⟩
  · obtain ⟨a1, a2, xs, r, o, es, ep, ho, q⟩ := q
    exact ⟨a1, a2, xs, r, o, es, ep, st _ ho, q⟩
theorem oVal_rel {kvs : List ORow} {xs : List (List OKey × Addr × Value)} (r : Paired (fun (p : ORow) q => p.1 = q.1 ∧ p.2.1 = q.2.1 ∧ RelV p.2.2 q.2.2) kvs xs) (k : List OKey) :
    RelO (oVal kvs k) ((atKey xs k).map (·.2)) := by
  induction r with
  | nil => exact True.intro
  | @cons p q ps qs h t ih =>
    obtain ⟨h1, _, h2⟩ := h
    by_cases e : p.1 = k
    · have e' : q.1 = k := h1.symm.trans e
      have a : oVal (p :: ps) k = some p.2.2 := by simp [oVal, List.find?_cons, e]
      have b : atKey (q :: qs) k = some q.2 := by simp [atKey, List.find?_cons, e']
      rw [a, b]
      exact h2
    · have e' : ¬ q.1 = k := fun z => e (h1.trans z)
      have a : oVal (p :: ps) k = oVal ps k := by simp [oVal, List.find?_cons, e]
      have b : atKey (q :: qs) k = atKey qs k := by simp [atKey, List.find?_cons, e']
      rw [a, b]
      exact ih
section
variable {P : Program} {w : World} {H : Hp} {h : Heap} {a b : Addr} {kvs : List ORow} {ks : List OKey}
theorem oKey_of (ok : HOk P w H h) (e : H b = some (.tup (ks.map oKV))) : (tupleKind (noneKind P w)).is h ks b := by
  obtain ⟨_, its, r, o, h1, h2, n, h3⟩ := (show ObjOk P w H h b (.tup (ks.map oKV)) from ok b _ e)
  exact ⟨o, its.toArray, n, h1, h2, h3, by simpa using oItems r⟩
theorem OD.of (ok : HOk P w H h) (d : OD P w H a kvs) : (a == sysModules) = false ∧ kvs.length ≤ sizeLine ∧ ∃ xs : List (List OKey × Addr × Value), Paired (fun (p : ORow) q => p.1 = q.1 ∧ p.2.1 = q.2.1 ∧ RelV p.2.2 q.2.2) kvs xs ∧
    h.DictOfH (tupleKind (noneKind P w)) a xs := by
  obtain ⟨⟨hs, hz, xs, r, o, es, ep, ho, hx, hd, he, hn⟩, _, _⟩ := (show ObjOk P w H h a (odO P w a kvs) from ok a _ d.at_)
  refine ⟨hs, hz, xs, r, o, es, ep, ho, hx, hd, he, fun x hm => ?_, hn⟩
  have all : ∀ {l : List ORow} {m : List (List OKey × Addr × Value)}, Paired (fun (p : ORow) q => p.1 = q.1 ∧ p.2.1 = q.2.1 ∧ RelV p.2.2 q.2.2) l m → (∀ x ∈ l, H x.2.1 = some (.tup (x.1.map oKV))) → ∀ x ∈ m, (tupleKind (noneKind P w)).is h x.1 x.2.1 := by
    intro l m q
    induction q with
    | nil => intro _ x hx; exact nomatch hx
    | @cons p q ps qs hq t ih =>
      intro hk x hx
      rcases List.mem_cons.mp hx with e | hx
      · subst e
        have := hk p List.mem_cons_self
        rw [hq.1, hq.2.1] at this
        exact oKey_of ok this
      · exact ih (fun y hy => hk y (List.mem_cons_of_mem _ hy)) x hx
  exact all r d.keys x hm
end
section
variable {X : Cx} {o i e value : Expr} {td ty tv : TE} {pos pos' : Pos}
/-- {}, to be such a dict -/
theorem pe_dnewO : PE X (.Dict [] [] pos) (fun _ H Q => ∀ p, H p = none → Q (.ref p) (upd H p (odO X.prog X.w p []))) := ⟨fun pins s σ H Q I h =>
  wpAny_Dict_empty ⟨.ref s.heap.objs.size, _, I.laid (a := s.heap.objs.size) (o := odO X.prog X.w s.heap.objs.size []) (t' := s.toks) (fun _ _ q => Heap.get?_push_of_some _ q) (Nat.le_refl _)
    (od_ok ⟨beq_eq_false_iff_ne.mpr (Ne.symm (Nat.ne_of_lt I.big)), Nat.zero_le _, [], .nil, _, #[], 0, Heap.get?_push_size _ rfl, ⟨rfl, rfl, rfl⟩, rfl, rfl, List.nodup_nil⟩), rfl, h _ (I.hok.fresh (Nat.le_refl _))⟩⟩
/-- y not in d -/
def tONotIn (P : Program) (w : World) (ty td : TE) : TE := fun σ H Q => ty σ H fun y H1 => td σ H1 fun x H2 => ∃ a b kvs k, x = .ref a ∧ y = .ref b ∧ OD P w H2 a kvs ∧ H2 b = some (.tup (k.map oKV)) ∧ Q (.bl (!(oVal kvs k).isSome)) H2
theorem pc_onotin (hu : X.A.units + 1 < cLine) (hi : PE X i ty) (ho : PE X o td) : PC X .NotIn i o (tONotIn X.prog X.w ty td) := by
  refine ⟨fun pins s σ H Q I h => ?_⟩
  refine thn (hi.run pins s σ H _ I h) fun iv s1 ⟨y, H1, I1, ry, q1⟩ => thn (ho.run pins s1 σ H1 _ I1 q1) fun u s2 ⟨x, H2, I2, rx, a, b, kvs, k, ex, ey, d, hb, q2⟩ => ?_
  subst ex ey
  obtain rfl : u = Value.ref a := rx
  obtain rfl : iv = Value.ref b := ry
  obtain ⟨hs, hz, xs, rel, dd⟩ := d.of I2.hok
  refine wpAny_notIn_heap (tupleKind_room_in1 hu) (oKey_of I2.hok hb) hs dd ?_
  have q := (oVal_rel rel k).isSome_eq
  rw [Option.isSome_map] at q
  rw [← q]
  exact ⟨.bl _, H2, I2.tok _, rfl, q2⟩
/-- d[y] -/
def tOGet (P : Program) (w : World) (td ty : TE) : TE := fun σ H Q => td σ H fun x H1 => ty σ H1 fun y H2 => ∃ a b kvs k v, x = .ref a ∧ y = .ref b ∧ OD P w H2 a kvs ∧ H2 b = some (.tup (k.map oKV)) ∧ oVal kvs k = some v ∧ Q v H2
theorem pe_oget (hu : X.A.units + 1 < cLine) (ho : PE X o td) (hi : PE X i ty) (hs : NoSl i) : PE X (.Subscript o i pos) (tOGet X.prog X.w td ty) := by
  refine ⟨fun pins s σ H Q I h => ?_⟩
  refine subD_of PySem.F.slot_dict_getitem.lookup hs (thn (ho.run pins s σ H _ I h) fun u s1 ⟨x, H1, I1, rx, q1⟩ => thn (hi.run pins s1 σ H1 _ I1 q1) fun iv s2 ⟨y, H2, I2, ry, a, b, kvs, k, v, ex, ey, d, hb, hv, q2⟩ => ?_)
  subst ex ey
  obtain rfl : u = Value.ref a := rx
  obtain rfl : iv = Value.ref b := ry
  obtain ⟨hs, hz, xs, rel, dd⟩ := d.of I2.hok
  obtain ⟨w', hw, rw'⟩ := RelO.some_of (v := v) (o := (atKey xs k).map (·.2)) (by rw [← hv]; exact oVal_rel rel k)
  obtain ⟨p, hp, hp2⟩ := Option.map_eq_some_iff.mp hw
  refine ⟨dd.typeIs, wpAny_getItem_heap (tupleKind_room_in1 hu) (oKey_of I2.hok hb) dd hp ?_⟩
  rw [hp2]
  exact ⟨v, H2, I2.tok _, rw', q2⟩
/-- d[y] = v, y new -/
def sOPut (P : Program) (w : World) (td ty tv : TE) : TS := fun D σ H => tv σ H fun v H1 => td σ H1 fun x H2 => ty σ H2 fun y H3 => ∃ a b kvs k, x = .ref a ∧ y = .ref b ∧ OD P w H3 a kvs ∧ H3 b = some (.tup (k.map oKV)) ∧ oVal kvs k = none ∧ kvs.length < sizeLine ∧
  D.nx σ (upd H3 a (odO P w a (kvs ++ [(k, b, v)])))
theorem ps_oput (hu : X.A.units + 1 < cLine) (ho : PE X o td) (hi : PE X i ty) (hv : PE X value tv) (hs : swapsWith value (some (.Subscript o i pos')) pos.line X.env = pure false) :
    PS X (.Assign [.Subscript o i pos'] value pos) (sOPut X.prog X.w td ty tv) := by
  refine ⟨fun pins s σ H D I h => ?_⟩
  refine wpAny_Assign_Subscript (thn (hv.run pins s σ H _ I h) fun r s1 ⟨v, H1, I1, rv, q1⟩ => thn (ho.run pins s1 σ H1 _ I1 q1) fun u s2 ⟨x, H2, I2, rx, q2⟩ => thn (hi.run pins s2 σ H2 _ I2 q2) fun iv s3 ⟨y, H3, I3, ry, a, b, kvs, k, ex, ey, d, hb, hn, hz, q3⟩ => ?_) hs
  subst ex ey
  obtain rfl : u = Value.ref a := rx
  obtain rfl : iv = Value.ref b := ry
  obtain ⟨hs, hz', xs, rel, dd⟩ := d.of I3.hok
  have hl : kvs.length = xs.length := Paired.length rel
  have hnone : atKey xs k = none := by
    have q := (oVal_rel rel k).isSome_eq
    rw [hn, Option.isSome_map] at q
    cases e : atKey xs k with
    | none => rfl
    | some _ => rw [e] at q; cases q
  refine wpAny_setItem_heap (hsz := by omega) (tupleKind_room_in1 hu) (oKey_of I3.hok hb) dd fun h' dd' hs' => ?_
  refine ⟨σ, _, d_write (t' := _) I3 (by rw [d.at_]; exact True.intro) hs' ?_ (od_ok ?_), q3⟩
  · obtain ⟨o, _, _, ho, _⟩ := dd'
    exact ⟨o, ho⟩
  · obtain ⟨o, es, ep, ho, h2, h3, h4, _, h5⟩ := dd'
    rw [storedH_new hnone] at h4 h5
    exact ⟨hs, by rw [List.length_append]; show kvs.length + 1 ≤ _; omega, _, Paired.snoc rel ⟨rfl, rfl, rv⟩, o, es, ep, ho, h2, h3, h4, h5⟩
end
/-- all but what .ext tells stays -/
def SaX (H H' : Hp) : Prop := ∀ b o, H b = some o → (∀ φ, o ≠ .ext φ) → H' b = some o
theorem SaX.refl {H : Hp} : SaX H H := fun _ _ h _ => h
theorem SaX.trans {H H1 H2 : Hp} (x : SaX H H1) (y : SaX H1 H2) : SaX H H2 := fun b o h n => y b o (x b o h n) n
theorem SaX.of {H H' : Hp} (x : Same H H') : SaX H H' := fun b o h _ => x b o h
theorem SaX.upd {H : Hp} {a : Addr} {φ φ' : Heap → Prop} (h : H a = some (.ext φ)) : SaX H (upd H a (.ext φ')) := fun b o z n => by
  rw [upd_ne (fun e => n φ (by rw [e, h] at z; exact (Option.some.inj z).symm))]
  exact z
end Wd
end
section
set_option Elab.async false
set_option linter.all false
set_option maxRecDepth 100000
set_option maxHeartbeats 1000000
/-! enumerate(list, start=1). -/
namespace Wd
open PySem PySem.Spec PyProof.Rows L2
theorem callWith_typeKw {M : Model} {A : Around} {E : Value → Shared → Prop} {s : Shared} {env : Env} {pos : Pos} {T : String} {e : Expr} {rest : List Expr} {kws : List Keyword} {Q : Value → Shared → Prop}
    (h : wpAny M A (spliced (backTo pos (starEach (e :: rest) env))) (fun vs s₁ => wpAny M A (evalAll ((backToKw pos (keywordEach kws env)).map (·.2)))
      (fun kvs s₂ => wpAny M A (call (.type T) vs (((backToKw pos (keywordEach kws env)).filterMap (·.1)).zip kvs)) Q E s₂) E s₁) E s)
    (he : backTo pos (starEach (e :: rest) env) = (false, eval e env) :: backTo pos (starEach rest env))
    (hplain : (backTo pos (starEach (e :: rest) env)).any (·.1) = false)
    (hall : (backToKw pos (keywordEach kws env)).all (·.1.isSome) = true)
    (hkw : (backToKw pos (keywordEach kws env)).any (·.1.isNone) = false) :
    wpAny M A (callWith pos (.type T) [] (backTo pos (starEach (e :: rest) env)) (backToKw pos (keywordEach kws env))) Q E s := by
  have h2 : wpAny M A (evalArgs (.type T) true (backTo pos (starEach (e :: rest) env)) (backToKw pos (keywordEach kws env))) (fun a s₁ => wpAny M A (call (.type T) ([] ++ a.pos) a.kw) Q E s₁) E s := by
    rw [he] at h ⊢
    exact PyProof.Rows.evalArgs_kwB hall h
  unfold callWith
  refine wpAny_bind (wpAny_holding (wpAny_mono h2 (fun a s₁ h₁ => wpAny_bind (wpAny_standAt ?_)) fun _ _ x => x))
  simp only [hplain, hkw, Bool.or_false]
  refine wpAny_bind (wpAny_pure ?_)
  exact wpAny_bind (wpAny_mono h₁ (fun r s₂ hr => wpAny_bind (wpAny_holding (wpAny_point (wpAny_pure hr)))) fun _ _ x => x)
/-- the list at a as it stands at each turn, each item in a new pair, the numbers from 1 on -/
def Ite1 (K : PySem.W.Frag) (a : Addr) : It :=
  ⟨fun i H => ∃ (xs : List V) (x : V), SqL K H a xs ∧ xs[i]? = some x, fun i H v H' => ∃ T x, v = .ref T ∧ H T = none ∧ H' = upd H T (.tup [.int (1 + (i : Int)), x]) ∧ ∀ xs, SqL K H a xs → xs[i]? = some x, fun i H => ∃ xs : List V, SqL K H a xs ∧ xs.length ≤ i⟩
theorem enum_end1 {prog : Program} {w : World} {A : Around} {E : Value → Shared → Prop} {s : Shared} {e it l : Addr} {i : Nat} {c : Int} {items : Array Value} {old : Value} {Q : Option Value → Shared → Prop} (hh : A.handled = none)
    (he : IsEnum s.heap e it c old) (hit : s.heap.IsListIter it l i) (hl : s.heap.IsList l items) (hx : items[i]? = none)
    (hQ : ∀ h', Heap.ExtBut it s.heap h' → Q none { s with heap := h' }) : wpAny (model prog w) A (pyNext (.ref e)) Q E s := by
  have hT : s.TypeIs (.ref e) "enumerate" := ⟨_, he, rfl⟩
  unfold pyNext
  refine wpAny_bind (wpAny_attempt (wpAny_callSpecial?_slot (name := Str.ofString "__next__") hT F.slot_enumerate_next
    (wpAny_call_entry F.slot_enumerate_next hT F.entry_enumerate_next ?_ (F.args_enumerate_next_1 _))))
  show wpAny _ _ (field (.ref e) 2 >>= _) _ _ _
  refine wpAny_bind (wpAny_field he rfl (x := .ref it) rfl ?_)
  refine wpAny_bind (wpAny_nextOf_list_end hh hit hl hx fun h' x he' hx' => ?_)
  obtain ⟨o, ho, hc⟩ := hx'
  refine wpAny_bind (wpAny_isInstance (T := "StopIteration") (b := true) ⟨o, ho, hc⟩ isSubtype_stop ?_)
  exact wpAny_pure (hQ _ he')
theorem turn_enum1 {P : Program} {w : World} {K : PySem.W.Frag} {elts : List Expr} {kk : Nat} {tpos : Pos} (a e it : Addr) :
    Turn P w K (.Tuple elts kk tpos) (Ite1 K a) [e, it] e (fun i h => (∃ old, IsEnum h e it (1 + (i : Int)) old) ∧ h.IsListIter it a i ∧ e ≠ it) where
  mem := by simp
  obj := fun i h st b hb => by
    obtain ⟨⟨old, he⟩, ⟨o, ho, hc, hd⟩, _⟩ := st
    have e' : b = e ∨ b = it := by simpa using hb
    rcases e' with z | z
    · rw [z]; exact ⟨_, he, fun v q => nomatch q⟩
    · rw [z]; exact ⟨o, ho, fun v q => by rw [hd] at q; cases q⟩
  keep := fun i h h' st k => let ⟨⟨old, he⟩, hi, hne⟩ := st; ⟨⟨old, k e (by simp) _ he⟩, hi.at fun o q => k it (by simp) o q, hne⟩
  item := by
    intro X hP hw hK hc i pins s σ H E I hf st hg
    subst hP hw hK
    obtain ⟨⟨old, he⟩, hit, hne⟩ := st
    obtain ⟨xs, x, hq, hx⟩ := hg
    obtain ⟨its, rv, p, hz⟩ := I.list hq
    obtain ⟨u, hu, ru⟩ := rv.get hx
    have hel : e < s.heap.objs.size := Heap.lt_size he
    have hil : it < s.heap.objs.size := by obtain ⟨_, q, _⟩ := hit; exact Heap.lt_size q
    have hal : a ≠ it := by
      rintro rfl
      obtain ⟨o, q, qc, qd⟩ := hit
      obtain ⟨o2, m, q2, c2, d2, _⟩ := p
      rw [q] at q2
      obtain rfl := Option.some.inj q2
      exact absurd (Value.type.inj (qc.symm.trans c2)) (by decide)
    have hae : e ≠ a := by
      rintro rfl
      obtain ⟨o2, q2, c2, m, d2⟩ := p.isList
      rw [show s.heap.get? e = _ from he] at q2
      obtain rfl := Option.some.inj q2
      cases d2
    have hlt : i < its.toArray.size := by
      have := (List.getElem?_eq_some_iff.mp hu).1
      simpa using this
    refine wpAny_pyNext_enum_itemC (Draws.list (A := X.A.in1) (I.ok.hd hc) it a hal its.toArray) he ⟨hit, p.isList⟩ hlt hne (by simp [hne, hae]) fun y h' tk hy ho hst hT hsz hk => ?_
    obtain ⟨hit', _⟩ := hst
    obtain rfl : u = y := by
      have h1 : its[i]? = some y := by simpa using hy
      rw [hu] at h1
      exact Option.some.inj h1
    refine ⟨_, rfl, wpAny_letOwnedTupleGo_enum (s := { s with heap := h', toks := tk + 1 }) ho fun h'' he' sb => ?_⟩
    have hT2 : h''.get? s.heap.objs.size = some { cls := .type "tuple", data := .seq #[.int (1 + (i : Int)) tk, u] } := (sb.2 _ (Nat.ne_of_gt hel)).trans hT
    have new : ObjOk X.prog X.w (upd H s.heap.objs.size (.tup [.int (1 + (i : Int)), x])) h'' s.heap.objs.size (.tup [.int (1 + (i : Int)), x]) :=
      ⟨by show 2 ≤ sizeLine; decide, [.int (1 + (i : Int)) tk, u], .cons ⟨_, rfl⟩ (.cons ru .nil), ⟨_, hT2, rfl, _, rfl⟩⟩
    have I1 : Inv X pins σ (upd H s.heap.objs.size (.tup [.int (1 + (i : Int)), x])) { s with heap := h'', toks := tk + 1 } :=
      I.turnedNew (ch := [e, it]) (fun b ob hb q => (sb.2 b (fun z => hb (by simp [z]))).trans (hk b ob (fun z => hb (by simp [z])) (fun z => hb (by simp [z])) q)) hf (Nat.le_refl _) new
    refine ⟨.ref s.heap.objs.size, _, I1, rfl, ⟨_, x, rfl, I.hok.fresh (Nat.le_refl _), rfl, fun ys hy => by rw [I.list_inj hy hq]; exact hx⟩, ⟨⟨u, ?_⟩, hit'.at fun o q => (sb.2 it (Ne.symm hne)).trans q, hne⟩, fun b hb => ?_⟩
    · have e1 : 1 + ((i + 1 : Nat) : Int) = 1 + (i : Int) + 1 := by omega
      rw [e1]; exact he'
    · have hb' : b < s.heap.objs.size := by
        have e' : b = e ∨ b = it := by simpa using hb
        rcases e' with z | z
        · rw [z]; exact hel
        · rw [z]; exact hil
      rw [upd_ne (Nat.ne_of_lt hb')]
      exact (hf b hb).1
  done := by
    intro X hP hw hK hc i pins s σ H E I hf st hg
    subst hP hw hK
    obtain ⟨⟨old, he⟩, hit, hne⟩ := st
    obtain ⟨xs, hq, hx⟩ := hg
    obtain ⟨its, rv, p, hz⟩ := I.list hq
    obtain ⟨f0, f1, f2, f3, f4, f5⟩ := hf it (by simp)
    have hl := rv.length
    exact enum_end1 (I.ok.hd hc) he hit p.isList (by simp; omega) fun h' eb => ⟨rfl, I.turned (t' := s.toks) (fun b o hb q => eb b o hb q) f0 f1 f3 f4 f5⟩
  self := fun A i s Q E st h => let ⟨⟨_, he⟩, _⟩ := st; wpAny_pyIter_enum he h
def iEnum1 (K : PySem.W.Frag) (ta : TA) : TI := fun σ H R => ta σ H fun vs H1 => ∃ a xs, vs = [.ref a] ∧ SqL K H1 a xs ∧ R (Ite1 K a) H1
theorem pi_enum1 {X : Cx} {e : Expr} {ta : TA} {p pos tpos p2 kp : Pos} {elts : List Expr} {kk j : Nat} (hg : Gl X "enumerate") (hm : X.mg "enumerate" = none) (ha : PA X [e] ta)
    (he : backTo pos (starEach [e] X.env) = (false, eval e X.env) :: backTo pos (starEach [] X.env) := by rfl) (hpl : (backTo pos (starEach [e] X.env)).any (·.1) = false := by rfl)
    (hall : (backToKw pos (keywordEach [⟨some "start", .Constant (.int 1) j p2, kp⟩] X.env)).all (·.1.isSome) = true := by rfl) (hnone : (backToKw pos (keywordEach [⟨some "start", .Constant (.int 1) j p2, kp⟩] X.env)).any (·.1.isNone) = false := by rfl)
    (hks : (backToKw pos (keywordEach [⟨some "start", .Constant (.int 1) j p2, kp⟩] X.env)).filterMap (·.1) = (["start"] : List Str) := by rfl) :
    PI X (.Tuple elts kk tpos) (.Call (.Name "enumerate" p) [e] [⟨some "start", .Constant (.int 1) j p2, kp⟩] pos) (iEnum1 X.K ta) := by
  have hk : PK X [⟨some "start", .Constant (.int 1) j p2, kp⟩] (L2.tCons (L2.tC (.int 1)) L2.tNil) := pk_cons pe_int pk_nil
  refine ⟨fun pins s σ H R I h => ?_⟩
  refine wpAny_Call_Name_kw (ld_blt I hg hm boot_enumerate ?_)
  refine callWith_typeKw (thn (ha.run pos pins s σ H _ I h) fun us s1 ⟨vs, H1, I1, r1, q1⟩ => thn (hk.run pos pins s1 σ H1 (fun zs H2 => zs = [.int 1] ∧ H2 = H1) I1 ⟨rfl, rfl⟩) fun ws s2 ⟨zs, H2, I2, r2, q2⟩ => ?_) he hpl hall hnone
  rw [hks]
  obtain ⟨ez, eH⟩ := q2
  subst ez eH
  obtain ⟨a, xs, ex, hq, q⟩ := q1
  subst ex
  cases r1 with
  | cons r rr =>
    cases rr
    cases r
    cases r2 with
    | cons r2 rr2 =>
      cases rr2
      obtain ⟨t, rfl⟩ := r2
      obtain ⟨its, rv, p', hz⟩ := I2.list hq
      show wpAny _ _ (call (.type "enumerate") [.ref a] [(Str.ofString "start", .int 1 t)]) _ _ _
      refine enum_begins_start (begins_list a its.toArray) p'.isList (by decide) (by decide) fun h' he hit hsz hk => wpAny_pyIter_enum he ?_
      have I3 : Inv X pins σ _ { s2 with heap := h' } := I2.kept (t' := s2.toks) hk
      refine ⟨s2.heap.objs.size + 1, [s2.heap.objs.size + 1, s2.heap.objs.size], _, _, _, rfl, I3, turn_enum1 a (s2.heap.objs.size + 1) s2.heap.objs.size, ⟨⟨.none, he⟩, ⟨_, hit, rfl, rfl⟩, Nat.succ_ne_self _⟩, fun b hb => ?_, q⟩
      have e' : b = s2.heap.objs.size + 1 ∨ b = s2.heap.objs.size := by simpa using hb
      have hle : s2.heap.objs.size ≤ b := by
        rcases e' with z | z
        · rw [z]; exact Nat.le_add_right _ _
        · rw [z]; exact Nat.le_refl _
      exact I2.fpOk hle (I2.hok.fresh hle)
end Wd
end
section
set_option Elab.async false
set_option linter.all false
set_option maxRecDepth 100000
set_option maxHeartbeats 1000000
/-! tuple(d) of a dict. -/
namespace Wd
open PySem PySem.Spec PyProof.Rows L2
section
variable {prog : Program} {w : World} {A : Around} {E : Value → Shared → Prop} {s : Shared} {r d : Addr} {n : Nat} {P : Nat → Value → Prop} {OK : Heap → Prop}
theorem collect_kdl {T : String} {Q : List Value → Shared → Prop} (K : PySem.W.KdlSrc prog w T r d n P OK) (hh : A.handled = none) (hok : OK s.heap) (hn : n ≤ sizeLine)
    (hQ : ∀ (h' : Heap) (tk : Nat) (acc : Array Value), (∀ b o, s.heap.get? b = some o → h'.get? b = some o) → ItemsOf P acc n → Q acc.toList { s with heap := h', toks := tk }) :
    wpAny (model prog w) A (collect (.ref r)) Q E s := by
  unfold collect
  refine wpAny_bind (wpAny_runValue (codeAny_builtin F.entry_proto_collect ?_))
  rw [Around.under_plainId F.plain_proto_collect _]
  show wpAny _ A.in1 (newList [] >>= fun l => again (.builtin "list.__iadd__" ⟨[l, .ref r], []⟩)) _ _ s
  refine wpAny_bind (wpAny_newObj_type ?_)
  refine wpAny_pure ⟨plainId_quiet F.plain_list_iadd _, codeAny_builtin F.entry_list_iadd ?_⟩
  rw [Around.under_plainId F.plain_list_iadd _]
  show wpAny _ A.in1 (Builtin.List.listExtendWith (.ref s.heap.objs.size) (.ref r) (.ref s.heap.objs.size)) _ _ _
  have hS : (s.heap.push { cls := .type "list", data := .seq ([] : List Value).toArray }).get? s.heap.objs.size = some { cls := .type "list", data := .seq #[] 0 } := Heap.get?_push_size _ rfl
  have lt := K.there _ hok
  refine wpAny_mono (PySem.W.kdl_extend (A := A) (R := fun rr s' => rr = .ok (.ret (.ref s.heap.objs.size)) ∧ ∃ (h' : Heap) (tk : Nat) (acc : Array Value) (c' : Nat), s' = { s with heap := h', toks := tk } ∧
      (∀ b o, s.heap.get? b = some o → h'.get? b = some o) ∧ h'.get? s.heap.objs.size = some { cls := .type "list", dict := none, data := .seq acc c', slots := #[] } ∧ ItemsOf P acc n)
    (s := { s with heap := s.heap.push { cls := .type "list", data := .seq ([] : List Value).toArray } }) K hh (K.keep _ _ hok fun b _ o q => Heap.get?_push_of_some _ q) _ (Nat.ne_of_gt lt.1) (Nat.ne_of_gt lt.2) _ 0 hS
    (fun h' tk acc c' hk e hi => ⟨rfl, h', tk, acc, c', rfl, fun b o q => hk b o (Nat.ne_of_lt (Heap.lt_size q)) (Heap.get?_push_of_some _ q), e, hi⟩) hn) (fun fin s' h => ?_) (fun e s' h => ?_)
  · cases fin with
    | done f =>
      obtain ⟨e, h', tk, acc, c', rfl, hk, hS', hi⟩ := h
      cases e
      show wpAny _ A (load s.heap.objs.size >>= _) _ _ _
      exact wpAny_bind (wpAny_load hS' (wpAny_pure (hQ h' tk acc hk hi)))
    | again c' =>
      refine ⟨h.1, codeAny_mono h.2 fun rr s'' hr' => ?_⟩
      obtain ⟨rfl, h', tk, acc, c', rfl, hk, hS', hi⟩ := hr'
      show wpAny _ A (load s.heap.objs.size >>= _) _ _ _
      exact wpAny_bind (wpAny_load hS' (wpAny_pure (hQ h' tk acc hk hi)))
  · exact absurd h.1 (by simp)
theorem code_tuple_new_kdl {Q₁ : Value → Shared → Prop} (K : PySem.W.KdlSrc prog w "dict" r d n P OK) (hh : A.handled = none) (hok : OK s.heap) (hn : n ≤ sizeLine)
    (h : ∀ (h' : Heap) (tk : Nat) (acc : Array Value), (∀ b o, s.heap.get? b = some o → h'.get? b = some o) → ItemsOf P acc n →
      Q₁ (.ref h'.objs.size) { s with heap := h'.push { cls := .type "tuple", data := .seq acc }, toks := tk }) :
    codeAny (model prog w) A (.call (.builtin "tuple.__new__") ⟨[.type "tuple", .ref r], []⟩) (wants Q₁ E) s := by
  refine codeAny_of_tree ?_
  show wpAny _ A.in1 (do checkBuiltinCall "tuple.__new__" ⟨[.type "tuple", .ref r], []⟩; again (.builtin "tuple.__new__" ⟨[.type "tuple", .ref r], []⟩)) _ _ s
  refine wpAny_bind (wpAny_of_eq (F.newCall_tuple_1 _) (wpAny_pure ⟨plainId_quiet F.plain_tuple_new _, codeAny_builtin F.entry_tuple_new ?_⟩))
  rw [Around.under_plainId F.plain_tuple_new _]
  have hsub := sub_tuple_self
  have hinit := init_tuple_lookup
  have hmh := madeHere_tuple
  have hTI : s.TypeIs (.ref r) "dict" := K.type s hok
  have hh1 : A.in1.handled = none := hh
  wp_walk using wpAny_typeOf hTI, collect_kdl (A := A.in1) K hh1 hok hn
  intro h' tk acc hk hacc
  show wpAny _ _ (Builtin.Tuple.tupleExact acc.toList.toArray >>= fun v => ret v) _ _ _
  unfold Builtin.Tuple.tupleExact
  refine wpAny_bind (wpAny_newObj_type ?_ (by show acc.toList.toArray.size ≤ sizeLine; simp only [Array.toArray_toList]; rw [hacc.1]; exact hn))
  refine wpAny_pure ?_
  have e : acc.toList.toArray = acc := by simp
  rw [e]
  exact h h' tk acc hk hacc
theorem call_tuple_kdl {Q : Value → Shared → Prop} (K : PySem.W.KdlSrc prog w "dict" r d n P OK) (hh : A.handled = none) (hok : OK s.heap) (hn : n ≤ sizeLine)
    (hQ : ∀ (h' : Heap) (tk : Nat) (acc : Array Value), (∀ b o, s.heap.get? b = some o → h'.get? b = some o) → ItemsOf P acc n →
      Q (.ref h'.objs.size) { s with heap := h'.push { cls := .type "tuple", data := .seq acc }, toks := tk }) :
    wpAny (model prog w) A (call (.type "tuple") [.ref r]) Q E s := by
  refine callType_codes (Q₁ := fun obj s₁ => s₁.TypeIs obj "tuple" ∧ Q obj s₁) F.called_tuple (F.typeCall_tuple_1 _) F.entry_object_init
    (code_tuple_new_kdl (A := A.in1) K hh hok hn fun h' tk acc hk hacc => ⟨⟨_, Heap.get?_push_size _ rfl, rfl⟩, hQ h' tk acc hk hacc⟩) fun obj s₁ h₁ => ?_
  exact ⟨h₁.1, F.args_object_init_2 obj _, object_init_meets F.called_tuple.init.lookup F.called_tuple.made (by decide) prog w A.in1 _ s₁ ⟨h₁.1, rfl, h₁.2⟩⟩
end
section
variable {X : Cx}
/-- tuple(d), keys ints and texts -/
theorem call_tuple_dK (hc : X.calm = true) : CallR X (.type "tuple") (fun xs H Q => ∃ p kvs, xs = [V.ref p] ∧ H p = some (.dK kvs) ∧ ∀ q, H q = none → Q (.ref q) (upd H q (.tup (kvs.map fun kv => kV kv.1)))) := by
  intro pins s σ H xs us Q I r h
  obtain ⟨p, kvs, e, hk, q⟩ := h
  subst e
  obtain ⟨u, eu, rx⟩ := vals1 r
  subst eu
  obtain rfl : u = Value.ref p := rx
  obtain ⟨z, lo, vs, rk, hd⟩ := (show ObjOk X.prog X.w H s.heap p (.dK kvs) from I.hok p _ hk)
  obtain ⟨ep, hat⟩ := hd.dictAt
  have hl : kvs.length = vs.length := Paired.length rk
  refine call_tuple_kdl (PySem.W.kdl_dict (knd := mixKind X.prog X.w) (kvs := vs) (ep := ep) lo) (I.ok.hd hc) hat (by rw [← hl]; exact z) fun h' tk acc' hkeep hacc => ?_
  have I1 : Inv X pins σ H { s with heap := h', toks := tk } := I.kept hkeep
  refine ⟨.ref h'.objs.size, upd H h'.objs.size (.tup (kvs.map fun kv => kV kv.1)), I1.laid (t' := tk) (fun b o e => Heap.get?_push_of_some _ e) (Nat.le_refl _) (show ObjOk X.prog X.w _ _ _ (.tup (kvs.map fun kv => kV kv.1)) from ⟨?_, acc'.toList, ?_, ?_⟩), rfl, q _ (I1.hok.fresh (Nat.le_refl _))⟩
  · rw [List.length_map]; exact z
  · have el : acc'.toList.length = acc'.size := by simp
    refine vals_of_at (by rw [List.length_map, el, hacc.1, hl]) fun j x w h1 h2 => ?_
    obtain ⟨k, y, hky, hi⟩ := hacc.2 j w (by rw [← Array.getElem?_toList]; exact h2)
    have e1 : (kvs.map (·.1))[j]? = some k := by
      rw [KV.keys rk, List.getElem?_map, hky] <;> rfl
    have e2 : (kvs.map fun kv => kV kv.1)[j]? = some (kV k) := by
      have e3 : (kvs.map fun kv => kV kv.1) = (kvs.map (·.1)).map kV := by rw [List.map_map] <;> rfl
      rw [e3, List.getElem?_map, e1] <;> rfl
    rw [e2] at h1
    cases h1
    exact keyIs_rel hi
  · rw [Array.toArray_toList]; exact IsTup.new _ _
/-- tuple(d), keys tuples -/
theorem call_tuple_dT (hc : X.calm = true) : CallR X (.type "tuple") (fun xs H Q => ∃ d kvs, xs = [V.ref d] ∧ Rd H d (.dT kvs) ∧ ∀ p bs, H p = none → IsKeys H kvs bs → Q (.ref p) (upd H p (.tup (bs.map V.ref)))) := by
  intro pins s σ H xs us Q I r h
  obtain ⟨d, kvs, rfl, hd, q⟩ := h
  obtain ⟨u, rfl, rx⟩ := r.one
  cases rx
  obtain ⟨z, hs, ks, pr, o, es, ep, ho, hx, hdt, he, hn⟩ := (show ObjOk X.prog X.w H s.heap d (.dT kvs) from hd.ok I.hok)
  have l1 : es.size = ks.length := size_of_entries he
  have l2 : kvs.length = ks.length := Paired.length pr
  refine call_tuple_kdl (kdl_raw hs hx hdt) (I.ok.hd hc) ho (by omega) fun h' tk acc' kp it => ?_
  have I1 : Inv X pins σ H { s with heap := h', toks := tk } := I.kept kp
  have ea : acc'.toList = ks.map fun x => Value.ref x.2.1 := by
    have hl : acc'.toList.length = ks.length := by rw [Array.length_toList, it.1]; exact l1
    apply List.ext_getElem?
    intro j
    rw [List.getElem?_map]
    cases hj : acc'.toList[j]? with
    | none =>
      have h1 := List.getElem?_eq_none_iff.mp hj
      rw [List.getElem?_eq_none (by omega)]
      all_goals rfl
    | some v =>
      obtain ⟨en, hen, hv⟩ := it.2 j v (by rw [← Array.getElem?_toList]; exact hj)
      have qe := entry_at he j
      rw [hen] at qe
      cases hb : ks[j]? with
      | none =>
        rw [hb] at qe
        exact nomatch (show some en = none from qe)
      | some b =>
        rw [hb] at qe
        have e2 : en = entryOfKey (tupleKind (mixKind X.prog X.w)) b := Option.some.inj qe
        rw [hv, e2]
        all_goals rfl
  have eb : acc'.toList = (ks.map fun x => x.2.1).map Value.ref := by rw [ea, List.map_map]; all_goals rfl
  have rv : Vals ((ks.map fun x => x.2.1).map V.ref) acc'.toList := by rw [eb]; exact vals_refs _
  have hz : ((ks.map fun x => x.2.1).map V.ref).length ≤ sizeLine := by rw [List.length_map, List.length_map]; omega
  refine ⟨.ref h'.objs.size, _, I1.laid (t' := tk) (o := .tup ((ks.map fun x => x.2.1).map V.ref)) (fun b o e => Heap.get?_push_of_some _ e) (Nat.le_refl _) ?_, rfl, q _ _ (I1.hok.fresh (Nat.le_refl _)) (isKeys_of pr)⟩
  exact ⟨hz, acc'.toList, rv, by rw [Array.toArray_toList]; exact IsTup.new _ _⟩
end
end Wd
end
section
set_option Elab.async false
set_option linter.all false
set_option maxRecDepth 100000
set_option maxHeartbeats 1000000
/-! The truth of a dict with tuple keys; a star in targets; a chain of three comparisons. -/
namespace Wd
open PySem PySem.Spec PyProof.Rows L2
section
variable {prog : Program} {w : World} {A : Around} {E : Value → Shared → Prop} {s : Shared}
theorem truthy_dictH {K : Type} [DecidableEq K] {knd : HeapKind prog w K} {d : Addr} {kvs : List (K × Addr × Value)} {Q : Bool → Shared → Prop} (hd : (d == sysModules) = false) (hm : s.heap.DictOfH knd d kvs) (hfit : (kvs.length : Int) < 2 ^ 63)
    (h : Q (!kvs.isEmpty) { s with toks := s.toks + 1 + 1 }) : wpAny (model prog w) A (truthy (.ref d)) Q E s := by
  have hne : ((kvs.length : Int) != 0) = !kvs.isEmpty := by cases kvs <;> simp <;> omega
  have key : wpAny (model prog w) A (runValue (.builtin "len" ⟨[.ref d], []⟩)) (fun r s' => r = .int kvs.length (s.toks + 1) ∧ Q (!kvs.isEmpty) s') E s := by
    refine wpAny_runValue (codeAny_builtin entry_len ?_)
    rw [Around.under_plainId plain_len _]
    exact wpAny_mono (wpAny_len_body_dictH (Q := fun r s' => r = .int kvs.length (s.toks + 1) ∧ Q (!kvs.isEmpty) s') hd hm hfit ⟨rfl, h⟩)
      (fun fin s' h' => by obtain ⟨r, rfl, hq⟩ := h'; exact hq) fun _ _ e => e
  unfold truthy
  first
    | refine wpAny_bind (wpAny_callSpecial?_none (name := Str.ofString "__bool__") hm.typeIs noBool_dict ?_)
    | refine wpAny_bind (wpAny_pure (wpAny_bind (wpAny_callSpecial?_none (name := Str.ofString "__bool__") hm.typeIs noBool_dict ?_)))
  first
    | refine wpAny_bind (wpAny_specialOf (name := Str.ofString "__len__") hm.typeIs F.slot_dict_len.lookup ?_)
    | refine wpAny_bind (wpAny_pure (wpAny_bind (wpAny_specialOf (name := Str.ofString "__len__") hm.typeIs F.slot_dict_len.lookup ?_)))
  first
    | exact wpAny_bind (wpAny_mono key (fun r s' h' => by obtain ⟨rfl, hq⟩ := h'; exact wpAny_pure (hne ▸ hq)) fun _ _ e => e)
    | exact wpAny_bind (wpAny_pure (wpAny_bind (wpAny_mono key (fun r s' h' => by obtain ⟨rfl, hq⟩ := h'; exact wpAny_pure (hne ▸ hq)) fun _ _ e => e)))
theorem walks_shift {I : Addr} {fp wr : List Addr} {n k : Nat} {P : Nat → Value → Prop} {St : Nat → Heap → Prop} (W : Walks prog w A I fp wr (k + n) P St) : Walks prog w A I fp wr n (fun i => P (k + i)) (fun i => St (k + i)) where
  sub := W.sub
  frame := fun i h h' st hk => W.frame (k + i) h h' st hk
  item := fun i s Q E hi st hQ => W.item (k + i) s Q E (by omega) st hQ
  done := fun s Q E st hQ => W.done s Q E st hQ
  self := fun i s Q E st hQ => W.self (k + i) s Q E st hQ
end
section
variable {X : Cx} {pos : Pos}
theorem tru_dT : TruR X (fun x H Q => ∃ a kvs, x = .ref a ∧ H a = some (.dT kvs) ∧ Q (!kvs.isEmpty) H) := by
  intro pins s σ H x v Q I rx h
  obtain ⟨a, kvs, rfl, hp, q⟩ := h
  obtain rfl : v = .ref a := rx
  obtain ⟨z, hd, ys, rel, dd⟩ := dt_of I.hok hp
  have hl : kvs.length = ys.length := Paired.length rel
  refine truthy_dictH hd dd (by rw [← hl]; rw [sizeLine_eq] at z; omega) ?_
  have e : (!ys.isEmpty) = !kvs.isEmpty := by cases rel <;> rfl
  rw [e]
  exact ⟨H, I.tok _, q⟩
/-- x, *y = a list -/
def gStar (K : PySem.W.Frag) (t : TGs) : TG := fun v σ H Q => ∃ a x xs, v = .ref a ∧ SqL K H a (x :: xs) ∧ ∀ p, H p = none → t [x, .ref p] σ (upd H p (.lst xs)) Q
theorem pg_star {es : List Expr} {k : Nat} {t : TGs} (hc : X.calm = true) (h : PGs X es t)
    (hn : (assignEach es X.env).length = 2 := by rfl) (hst : (assignEach es X.env).findIdx? (·.1) = some 1 := by rfl) : PG X (.Tuple es k pos) (gStar X.K t) := by
  refine ⟨fun pins s σ H v u Q I r hw => ?_⟩
  obtain ⟨a, x, xs, e1, hq, hw⟩ := hw
  subst e1
  cases r
  obtain ⟨its, rv, pl, hz⟩ := I.list hq
  cases rv with
  | @cons _ y _ ys rx rxs =>
  have hl' : s.heap.IsList a (y :: ys).toArray := by
    obtain ⟨o, m, e, c, d, q⟩ := pl
    exact ⟨o, e, c, m, q⟩
  have hlt : a ≠ s.heap.objs.size := by obtain ⟨o, ho, _⟩ := hl'; exact Nat.ne_of_lt (Heap.lt_size ho)
  have hh := I.ok.hd hc
  rw [PyProof.Rows.assign_Tuple]
  refine wpAny_bind (wpAny_standAt ?_)
  unfold unpack
  rw [hn, hst]
  unfold unpackItems
  refine wpAny_bind (wpAny_holding (wpAny_bind ?_))
  unfold notIterableAtAll
  refine wpAny_bind (wpAny_specialOf hl'.typeIs PySem.F.slot_list_iter.lookup ?_)
  refine wpAny_pure ?_
  simp only [Bool.false_eq_true, if_false]
  refine wpAny_bind (wpAny_holding (wpAny_pyIter_list hl' ?_))
  refine wpAny_bind (wpAny_holding (PySem.W.kun_draw hlt 1 0 _ _ ⟨_, Heap.get?_push_size _ rfl, rfl, rfl⟩ (hl'.push _) (by simp) fun h₁ hit₁ hs₁ => ?_))
  have e1 : ((y :: ys).toArray.toList.drop 0).take 1 = [y] := by simp
  rw [e1]
  rw [if_neg (by simp)]
  have hl₁ : h₁.IsList a (y :: ys).toArray := (hl'.push _).extBut hs₁.extBut hlt
  have hsz1 : h₁.objs.size = s.heap.objs.size + 1 := by rw [hs₁.1, Heap.size_push]
  have W := walks_shift (k := 1) (n := ys.length) (by
    have w0 := Walks.list (prog := X.prog) (w := X.w) (A := X.A.in1) hh s.heap.objs.size a hlt (y :: ys).toArray
    have en : (y :: ys).toArray.size = 1 + ys.length := by simp; omega
    rw [en] at w0
    exact w0)
  refine wpAny_bind (wpAny_holding (wpAny_collect_iter (s := { s with heap := h₁ }) (.inr (.inr (.inl rfl))) W.toS (fun i s' st => ?_) ⟨hit₁, hl₁⟩ (fun b hb => ?_) (by simp) (fun s' acc mv it => ?_) (by rw [sizeLine_eq] at hz ⊢; have := rxs.length; simp at hz; omega)))
  · obtain ⟨o, ho, hc', _⟩ := st.1
    exact ⟨o, ho, hc'⟩
  · show b < h₁.objs.size
    rw [hsz1]
    have ha : a < s.heap.objs.size := by obtain ⟨o, ho, _⟩ := hl'; exact Heap.lt_size ho
    have e' : b = s.heap.objs.size ∨ b = a := by simpa using hb
    rcases e' with z | z
    · rw [z]; exact Nat.lt_succ_self _
    · rw [z]; exact Nat.lt_succ_of_lt ha
  · have ea : acc.toList = ys := by
      have hlen : acc.toList.length = ys.length := by rw [Array.length_toList]; exact it.1
      apply List.ext_getElem?
      intro j
      cases hj : acc.toList[j]? with
      | none =>
        have h1 := List.getElem?_eq_none_iff.mp hj
        rw [List.getElem?_eq_none (by omega)]
      | some v =>
        have this : (y :: ys).toArray[1 + j]? = some v := it.2 j v (by rw [← Array.getElem?_toList]; exact hj)
        rw [show (1 + j) = j + 1 by omega] at this
        simpa using this.symm
    rw [ea]
    rw [if_neg (by simp)]
    have e2 : ys.take (ys.length - (2 - 1 - 1)) = ys := by simp
    have e3 : ys.drop (ys.length - (2 - 1 - 1)) = [] := by simp
    rw [e2, e3]
    obtain ⟨mh, mg, md, mo, mt⟩ := mv
    have kp : ∀ b o, s.heap.get? b = some o → s'.heap.get? b = some o := fun b o e => by
      have hb : b ≠ s.heap.objs.size := Nat.ne_of_lt (Heap.lt_size e)
      exact mh b o (by simpa using hb) (hs₁.extBut b o hb (Heap.get?_push_of_some _ e))
    obtain ⟨hp', g', d', tk', os'⟩ := s'
    dsimp only at mg md mo kp
    subst mg md mo
    have I1 : Inv X pins σ H ⟨hp', s.gens, s.drawn, tk', s.os⟩ := I.kept (t' := tk') (h' := hp') kp
    have zl : ys.length ≤ sizeLine := by rw [sizeLine_eq] at hz ⊢; have := rxs.length; simp at hz; omega
    refine wpAny_bind (wpAny_newList ?_ zl)
    refine wpAny_pure ?_
    have zx : xs.length ≤ sizeLine := by have := rxs.length; omega
    have I2 : Inv X pins σ (upd H hp'.objs.size (.lst xs)) ⟨hp'.push { cls := .type "list", data := .seq ys.toArray }, s.gens, s.drawn, tk', s.os⟩ :=
      I1.laid (t' := tk') (fun b o e => Heap.get?_push_of_some _ e) (Nat.le_refl _) (show ObjOk X.prog X.w _ _ _ (.lst xs) from ⟨zx, ys, 0, rxs, Heap.get?_push_size _ rfl⟩)
    exact h.run pins _ σ _ [x, .ref hp'.objs.size] [y, .ref hp'.objs.size] Q I2 (.cons rx (.cons rfl .nil)) (hw _ (I1.hok.fresh (Nat.le_refl _)))
theorem pgs_starred {e : Expr} {es : List Expr} {t : TG} {u : TGs} {p : Pos} (h1 : PG X e t) (h2 : PGs X es u) : PGs X (.Starred e p :: es) (gCons t u) := by
  refine ⟨fun pins s σ H vs us Q I r h => ?_⟩
  obtain ⟨v, vr, e1, h⟩ := h
  subst e1
  cases r with
  | cons r rr =>
    rw [PySem.arm_assignEach_Starred, List.map_cons]
    refine PyProof.Rows.assignInOrder_cons (thn (h1.run pins s σ H _ _ _ I r h) fun _ s1 ⟨σ1, H1, I1, q1⟩ => ?_)
    exact h2.run pins s1 σ1 H1 _ _ Q I1 rr q1
/-- a op1 b op2 c op3 d -/
def tChain3 (r r' r'' : R2) (ta tb tc td : TE) : TE := fun σ H Q => ta σ H fun x H1 => tb σ H1 fun y H2 => r x y H2 fun z H3 => ∃ k, z = .bl k ∧
  (if k = true then tc σ H3 fun w' H4 => r' y w' H4 fun z' H5 => ∃ k', z' = .bl k' ∧ (if k' = true then td σ H5 fun v' H6 => r'' w' v' H6 Q else Q (.bl false) H5) else Q (.bl false) H3)
theorem pe_chain3 {op op' op'' : CmpOp} {r r' r'' : R2} {a b c d : Expr} {ta tb tc td : TE} (ho : OpR X (compareOp op) r) (ho' : OpR X (compareOp op') r') (ho'' : OpR X (compareOp op'') r'') (ha : PE X a ta) (hb : PE X b tb) (hc : PE X c tc) (hd : PE X d td)
    (hm : lastMarks [op, op', op''] [b, c, d] = false := by with_unfolding_all rfl) : PE X (.Compare a [op, op', op''] [b, c, d] pos) (tChain3 r r' r'' ta tb tc td) := by
  refine ⟨fun pins s σ H Q I h => ?_⟩
  refine Compare_chain (thn (ha.run pins s σ H _ I h) fun v s1 ⟨x, H1, I1, r1, q1⟩ => chain_link (thn (hb.run pins s1 σ H1 _ I1 q1) fun u s2 ⟨y, H2, I2, r2, q2⟩ =>
    thn (ho pins s2 σ H2 x y v u _ I2 r1 r2 q2) fun d s3 ⟨z, H3, I3, r3, k, e, q3⟩ => ?_)) hm
  subst e
  cases r3
  refine wpAny_truthy_bool ?_
  cases k with
  | false => exact ite_ff ⟨.bl false, H3, I3, rfl, q3⟩
  | true =>
    refine ite_tt (chain_link (thn (hc.run pins s3 σ H3 _ I3 q3) fun w' s4 ⟨z', H4, I4, r4, q4⟩ => thn (ho' pins s4 σ H4 y z' u w' _ I4 r2 r4 q4) fun d' s5 ⟨z5, H5, I5, r5, k', e', q5⟩ => ?_))
    subst e'
    cases r5
    refine wpAny_truthy_bool ?_
    cases k' with
    | false => exact ite_ff ⟨.bl false, H5, I5, rfl, q5⟩
    | true => exact ite_tt (chain_last (thn (hd.run pins s5 σ H5 _ I5 q5) fun v' s6 ⟨z6, H6, I6, r6, q6⟩ => ho'' pins s6 σ H6 z' z6 w' v' Q I6 r4 r6 q6))
end
end Wd
end
section
set_option Elab.async false
set_option linter.all false
set_option maxRecDepth 100000
set_option maxHeartbeats 0
namespace Wd
open PySem PySem.Spec PyProof.Rows L2
/-! ### the text -/
def top (i : Nat) : Stmt := PySem.Challenge.pw_whoseday_k24_pieces_that_are_none_and_se.main.body.getD i (.Pass ⟨0, 0, 0, 0⟩)
abbrev i__wall : Nat := 1
abbrev i_turned : Nat := 4
abbrev i_all_sums : Nat := 5
abbrev i__plain_sum : Nat := 6
abbrev i__upward_sums : Nat := 7
abbrev i__least_sums : Nat := 8
abbrev i_is_integer : Nat := 14
abbrev i__is_piece : Nat := 19
abbrev i__starts : Nat := 20
abbrev i__law_pieces : Nat := 22
abbrev i__law_in_piece : Nat := 23
abbrev i__law_in_pieces : Nat := 24
abbrev i__law_pen : Nat := 25
abbrev i__law_draw : Nat := 26
abbrev i__law_pick : Nat := 27
abbrev i__law_refusal : Nat := 28
abbrev i__law_no_piece : Nat := 29
abbrev i_law : Nat := 30
abbrev i_WhosedayError : Nat := 10
abbrev i_BadPiece : Nat := 11
abbrev j_BadPiece___init__ : Nat := 0
abbrev i_BadNumber : Nat := 12
abbrev j_BadNumber___init__ : Nat := 0
abbrev i_Days : Nat := 18
abbrev j_Days___init__ : Nat := 0
abbrev j_Days___contains__ : Nat := 1
abbrev j_Days___add__ : Nat := 2
abbrev j_Days___or__ : Nat := 3
abbrev j_Days_least : Nat := 4
abbrev j_Days_greatest : Nat := 5
abbrev j_Days_goes_down : Nat := 6
abbrev j_Days_goes_up : Nat := 7
abbrev j_Days_next_from : Nat := 8
abbrev j_Days_next_to : Nat := 9
abbrev j_Days_moved : Nat := 10
abbrev j_Days_same : Nat := 11
abbrev j_Days__steps_on : Nat := 12
/-- the getter of a class's property -/
def gtA (K : PySem.W.Frag) (p : Str × Option Str) : Addr := match p.2 with
  | some m => (match PySem.W.recIn K (He.ma K (He.ga K p.1) m) "property" with
    | some (.ref g :: _) => g
    | _ => (match PySem.W.recIn K (He.ma K (He.ga K p.1) m) "staticmethod" with
      | some (.ref g :: _) => g
      | _ => 0))
  | none => 0
def recB (K : PySem.W.Frag) (p g : Addr) : Bool := match PySem.W.recIn K p "property" with
  | some (.ref a :: _) => decide (a = g)
  | _ => false
theorem recB_ok {K : PySem.W.Frag} {p g : Addr} (h : recB K p g = true) : ∃ rest, PySem.W.recIn K p "property" = some (.ref g :: rest) := by
  unfold recB at h
  split at h
  · rename_i a r e
    obtain rfl := of_decide_eq_true h
    exact ⟨_, e⟩
  · cases h
def recS (K : PySem.W.Frag) (p g : Addr) : Bool := match PySem.W.recIn K p "staticmethod" with
  | some (.ref a :: _) => decide (a = g)
  | _ => false
theorem recS_ok {K : PySem.W.Frag} {p g : Addr} (h : recS K p g = true) : ∃ rest, PySem.W.recIn K p "staticmethod" = some (.ref g :: rest) := by
  unfold recS at h
  split at h
  · rename_i a r e
    obtain rfl := of_decide_eq_true h
    exact ⟨_, e⟩
  · cases h
def gtW (K : PySem.W.Frag) (d : He.DefD) : He.FnW := match K.lookup (gtA K d.at_) with
  | some ⟨_, _, .func fd, _⟩ => some (fd.name, fd.qualname, fd.params, fd.body, fd.scope, fd.globals, fd.closure, fd.builtins)
  | _ => none
def gtOk (K : PySem.W.Frag) (d : He.DefD) : Bool := PySem.W.keepIn K (.ref (gtA K d.at_)) && (match K.lookup (gtA K d.at_) with
  | some ⟨_, _, .func fd, _⟩ => PySem.W.codeIn K fd.code d.qual && (He.dflB K fd.defaults (d.dvs K) && He.kwdB K fd.kwdefaults (d.kws K))
  | _ => false)
theorem gt_funD {K : PySem.W.Frag} {d : He.DefD} (e : gtW K d = d.val) (c : gtOk K d = true) : ∃ fd, FunD K d.name d.qual d.params d.body d.scope (d.dvs K) (d.kws K) (gtA K d.at_) fd := by
  obtain ⟨kp, c2⟩ := He.ba c
  unfold gtW at e
  split at e
  · rename_i oc od fd osl q
    rw [q] at c2
    obtain ⟨n1, n2, n3, n4, n5, n6, n7, n8, n9, n10, n11, n12, n13, n14, n15⟩ := fd
    have e2 : (some (n1, n2, n3, n4, n5, n6, n7, n15) : He.FnW) = some (d.name, d.qual, d.params, .stmts d.body, d.scope, mainGlobals, [], builtinsNs) := e
    simp only [Option.some.injEq, Prod.mk.injEq] at e2
    obtain ⟨h1, h2, h3, h4, h5, h6, h7, h8⟩ := e2
    subst h1 h2 h3 h4 h5 h6 h7 h8
    have c3 : (PySem.W.codeIn K n13 d.qual && (He.dflB K n8 (d.dvs K) && He.kwdB K n9 (d.kws K))) = true := c2
    obtain ⟨k1, k2⟩ := He.ba c3
    obtain ⟨k3, k4⟩ := He.ba k2
    exact ⟨_, ⟨oc, od, n8, n9, n10, n11, n12, n13, n14, osl, rfl, q, k1, He.dflB_ok k3, He.kwdB_ok k4⟩, kp⟩
  · cases e
/-- the getters -/
def gsU : List He.DefD := [⟨("Days", some "same"), "same", "Days.same", defArgs (inClass (top i_Days) j_Days_same), defBody (inClass (top i_Days) j_Days_same), defScope (inClass (top i_Days) j_Days_same), [], []⟩]
def valU (fn : List He.DefD) (ts : List He.Tab) (w : World) : He.AlT := ((true, fn.map He.DefD.val ++ gsU.map He.DefD.val), ts.map fun t => some (He.keysIn w.params t.2))
def obsU (q : PySem.W.Frag → Bool) (fn : List He.DefD) (ts : List He.Tab) (K : PySem.W.Frag) : He.AlT :=
  ((q K && fn.all (He.DefD.ok K), (fn.map fun d => He.fnW K d.at_) ++ gsU.map (gtW K)), ts.map fun t => He.dicW K (t.1 K))
def SaysU (q : PySem.W.Frag → Bool) (fn : List He.DefD) (ts : List He.Tab) (w : World) (K : PySem.W.Frag) : Prop := obsU q fn ts K = valU fn ts w
structure SaysV (q : PySem.W.Frag → Bool) (fn : List He.DefD) (ts : List He.Tab) (tf : List He.Defn) (w : World) (h : Heap) (K : PySem.W.Frag) : Prop where
  u : SaysU q fn ts w K
  hd : ∀ p ∈ tf, PySem.W.codeHdIn K (He.cT K p).1 (He.cT K p).2 = true
  out : ∀ p ∈ tf, K.lookup (He.cT K p).2 = none
  empty : ∀ p ∈ tf, h.get? (He.cT K p).2 = some { cls := .none, data := .fields #[] }
def seeU (as : List Addr) (q : PySem.W.Frag → Bool) (fn : List He.DefD) (ts : List He.Tab) (tf : List He.Defn) (g : Addr → Option Obj) : He.AlX := (obsU q fn ts (He.frT g as), He.tabsB g tf (He.frT g as))
theorem saysV_of {as : List Addr} {q : PySem.W.Frag → Bool} {fn : List He.DefD} {ts : List He.Tab} {tf : List He.Defn} {w : World} {h : Heap} (e : seeU as q fn ts tf h.get? = (valU fn ts w, true)) : SaysV q fn ts tf w h (He.frT h.get? as) := by
  have e1 : obsU q fn ts (He.frT h.get? as) = valU fn ts w := congrArg (fun z : He.AlX => z.1) e
  have e2 : He.tabsB h.get? tf (He.frT h.get? as) = true := congrArg (fun z : He.AlX => z.2) e
  have key : ∀ p ∈ tf, PySem.W.codeHdIn (He.frT h.get? as) (He.cT (He.frT h.get? as) p).1 (He.cT (He.frT h.get? as) p).2 = true ∧ ∃ o, h.get? (He.cT (He.frT h.get? as) p).2 = some o ∧ He.emptyTab o = true := fun p hp => by
    obtain ⟨h3, h4⟩ := He.ba (List.all_eq_true.mp e2 p hp)
    refine ⟨h3, ?_⟩
    cases q : h.get? (He.cT (He.frT h.get? as) p).2 with
    | none =>
      rw [q] at h4
      cases h4
    | some o =>
      rw [q] at h4
      exact ⟨o, rfl, h4⟩
  exact ⟨e1, fun p hp => (key p hp).1, fun p hp => by
    obtain ⟨_, o, q, z⟩ := key p hp
    exact He.frT_none q z, fun p hp => by
    obtain ⟨_, o, q, z⟩ := key p hp
    rw [q, He.emptyTab_eq z]⟩
def hookU (as : List Addr) (q : PySem.W.Frag → Bool) (fn : List He.DefD) (ts : List He.Tab) (tf : List He.Defn) : PySem.W.Hook where
  α := He.AlX
  obs := fun s => seeU as q fn ts tf s.heap.get?
  val := fun w => (valU fn ts w, true)
  says := fun w h => ∃ K : PySem.W.Frag, K.In h ∧ SaysV q fn ts tf w h K
  of := fun _ s z => ⟨He.frT s.heap.get? as, He.frT_in, saysV_of z⟩
  keeps := fun _ _ _ ⟨K, hin, z⟩ kp => ⟨K, hin.keeps kp, ⟨z.u, z.hd, z.out, fun p hp => kp _ _ (z.empty p hp)⟩⟩
theorem seeU_eq {as : List Addr} {q : PySem.W.Frag → Bool} {fn : List He.DefD} {ts : List He.Tab} {tf : List He.Defn} {g : Addr → Option Obj} {s : Shared} (h : ∀ a, g a = s.heap.get? a) :
    seeU as q fn ts tf g = (hookU as q fn ts tf).obs s := by
  rw [show g = s.heap.get? from funext h] <;> rfl
section
variable {q : PySem.W.Frag → Bool} {fn : List He.DefD} {ts : List He.Tab} {w : World} {K : PySem.W.Frag}
theorem SaysU.test (c : SaysU q fn ts w K) : q K = true :=
  (He.ba (show (q K && fn.all (He.DefD.ok K)) = true from congrArg (fun z : He.AlT => z.1.1) c)).1
theorem SaysU.def_ (c : SaysU q fn ts w K) (i : Nat) {d : He.DefD} (h : fn[i]? = some d := by rfl) :
    ∃ fd, FunD K d.name d.qual d.params d.body d.scope (d.dvs K) (d.kws K) (He.fAd K d.at_) fd := by
  have all := (He.ba (show (q K && fn.all (He.DefD.ok K)) = true from congrArg (fun z : He.AlT => z.1.1) c)).2
  have e : fn.map (fun d => He.fnW K d.at_) = fn.map He.DefD.val := (List.append_inj (congrArg (fun z : He.AlT => z.1.2) c) (by simp)).1
  have e2 : (fn.map fun d => He.fnW K d.at_)[i]? = (fn.map He.DefD.val)[i]? := by rw [e]
  simp only [List.getElem?_map, h, Option.map_some] at e2
  exact He.DefD.funD (Option.some.inj e2) (List.all_eq_true.mp all d (List.mem_of_getElem? h))
theorem SaysU.get_ (c : SaysU q fn ts w K) (i : Nat) {d : He.DefD} (h : gsU[i]? = some d) (ok : gtOk K d = true) :
    ∃ fd, FunD K d.name d.qual d.params d.body d.scope (d.dvs K) (d.kws K) (gtA K d.at_) fd := by
  have e : gsU.map (gtW K) = gsU.map He.DefD.val := (List.append_inj (congrArg (fun z : He.AlT => z.1.2) c) (by simp)).2
  have e2 : (gsU.map (gtW K))[i]? = (gsU.map He.DefD.val)[i]? := by rw [e]
  simp only [List.getElem?_map, h, Option.map_some] at e2
  exact gt_funD (Option.some.inj e2) ok
theorem SaysU.tab (c : SaysU q fn ts w K) (i : Nat) {t : He.Tab} (h : ts[i]? = some t := by rfl) : ∃ es n, KDict K w (t.1 K) es n := by
  have e : ts.map (fun t => He.dicW K (t.1 K)) = ts.map fun t => some (He.keysIn w.params t.2) := congrArg (fun z : He.AlT => z.2) c
  have e2 : (ts.map fun t => He.dicW K (t.1 K))[i]? = (ts.map fun t => some (He.keysIn w.params t.2))[i]? := by rw [e]
  rw [List.getElem?_map, List.getElem?_map, h] at e2
  exact He.dicW_ok (Option.some.inj e2)
end
/-- under a key of a dict of the top: a tuple of these -/
def dtup (K : PySem.W.Frag) (x k : Str) : Addr := match PySem.W.nsIn K (He.ga K x) k with
  | some (some (.ref t)) => t
  | _ => 0
def dtupB (K : PySem.W.Frag) (x k : Str) (vs : List He.Dv) : Bool := He.eqO (PySem.W.nsIn K (He.ga K x) k) (some (some (.ref (dtup K x k)))) && (match K.lookup (dtup K x k) with
  | some ⟨.type c, _, .seq its _, _⟩ => decide (c = "tuple") && (decide (its.size ≤ sizeLine) && He.relAll (vs.map (He.Dv.v K)) its.toList)
  | _ => false)
end Wd
end
section
set_option Elab.async false
set_option linter.all false
set_option maxRecDepth 100000
set_option maxHeartbeats 4000000
/-! ### what the class of an error says, told by a test -/
namespace Wd
open PySem PySem.Spec PyProof.Rows L2
def errB (K : PySem.W.Frag) (C : Addr) : Bool :=
  (PySem.W.clsIn K C).isSome && (He.eqO (PySem.W.findIn K (.ref C) "__getattribute__") (some (some (.builtin "BaseException.__getattribute__"))) &&
  (He.eqO (PySem.W.findIn K (.ref C) "__getattr__") (some none) && (decide (PySem.W.subIn K (.ref C) (.type "BaseException") = some true) &&
  (PySem.W.hasDictIn K C && (He.eqO (PySem.W.findIn K (.ref C) "__class__") (some (some (.builtin "object.__class__"))) && decide (PySem.W.mroIn K C (.type "object") = some true))))))
def oexB (K : PySem.W.Frag) (C : Addr) : Bool :=
  (match K.lookup C with
    | some ⟨.type "type", _, .cls cd, sl⟩ => (match cd.mro, sl.toList with
      | .ref C' :: bm, [_, _, _, _, some (.builtin n), _] => C' == C && (n == "ValueError.__new__" && (!cd.hasDel && (cd.hasDict && PySem.HandSPX.refsVE bm)))
      | _, _ => false)
    | _ => false) && (He.eqO (PySem.W.findIn K (.ref C) "__setattr__") (some (some (.builtin "object.__setattr__"))) &&
  (decide (PySem.W.typeIn K (.ref C) = some (.type "type")) && PySem.W.keepIn K (.ref C)))
def iniB (K : PySem.W.Frag) (x f : Str) : Bool :=
  oexB K (He.ga K x) && (He.eqO (PySem.W.findIn K (.ref (He.ga K x)) f) (some none) &&
  (He.eqO (PySem.W.findIn K (.ref (He.ga K x)) "__init__") (some (some (.ref (He.ma K (He.ga K x) "__init__")))) &&
  decide (PySem.W.typeIn K (.ref (He.ma K (He.ga K x) "__init__")) = some (.type "function"))))
def clsB (K : PySem.W.Frag) : Bool := He.eqO (PySem.W.specialIn K (.builtin "object.__class__") "__get__") (some (some (.builtin "getset_descriptor.__get__"))) && decide (PySem.W.takesIn K (.builtin "object.__class__") = some true)
theorem errC_of {K : PySem.W.Frag} {C : Addr} (h : errB K C = true) (c : clsB K = true) : ErrC K C := by
  obtain ⟨h1, h⟩ := He.ba h
  obtain ⟨h2, h⟩ := He.ba h
  obtain ⟨h3, h⟩ := He.ba h
  obtain ⟨h4, h⟩ := He.ba h
  obtain ⟨h5, h⟩ := He.ba h
  obtain ⟨h6, h7⟩ := He.ba h
  obtain ⟨c1, c2⟩ := He.ba c
  exact ⟨h1, He.eqO_ok h2, He.eqO_ok h3, of_decide_eq_true h4, h5, He.eqO_ok h6, He.eqO_ok c1, of_decide_eq_true c2, of_decide_eq_true h7⟩
theorem oexC_of {K : PySem.W.Frag} {C : Addr} (be : PySem.W.subIn K (.ref C) (.type "BaseException") = some true) (h : oexB K C = true) : OexC K C := by
  obtain ⟨h0, h⟩ := He.ba h
  obtain ⟨h1, h⟩ := He.ba h
  obtain ⟨h2, h3⟩ := He.ba h
  refine ⟨?_, He.eqO_ok h1, be, of_decide_eq_true h2, h3⟩
  split at h0
  · rename_i dd cd sl ho
    split at h0
    · rename_i C' bm k0 k1 k2 k3 n k5 hm hs
      simp only [Bool.and_eq_true, beq_iff_eq, Bool.not_eq_true'] at h0
      obtain ⟨rfl, rfl, hdel, hdict, htail⟩ := h0
      obtain ⟨nm, bs, mro, ns, qn, hd, sn, sub, ab, col, del⟩ := cd
      dsimp only at hm hdel hdict
      subst hm hdel hdict
      have hsl : sl = #[k0, k1, k2, k3, some (.builtin "ValueError.__new__"), k5] := by
        obtain ⟨l⟩ := sl
        simp only at hs
        rw [hs]
      subst hsl
      exact ⟨nm, qn, ns, bs, bm, sn, sub, ab, col, dd, k0, k1, k2, k3, k5, ho, htail⟩
    · cases h0
  · cases h0
theorem iniB_ok {K : PySem.W.Frag} {x f : Str} (h : iniB K x f = true) : oexB K (He.ga K x) = true ∧ PySem.W.findIn K (.ref (He.ga K x)) f = some none ∧
    PySem.W.findIn K (.ref (He.ga K x)) "__init__" = some (some (.ref (He.ma K (He.ga K x) "__init__"))) ∧ PySem.W.typeIn K (.ref (He.ma K (He.ga K x) "__init__")) = some (.type "function") := by
  obtain ⟨h1, h2⟩ := He.ba h
  obtain ⟨h3, h4⟩ := He.ba h2
  obtain ⟨h5, h6⟩ := He.ba h4
  exact ⟨h1, He.eqO_ok h3, He.eqO_ok h5, of_decide_eq_true h6⟩
end Wd
end
section
set_option Elab.async false
set_option linter.all false
set_option maxRecDepth 100000
set_option maxHeartbeats 1000000
/-! what the dict MEMBERS of the top holds -/
namespace Wd
open PySem PySem.Spec PyProof.Rows L2
def memR (e : DictEntry) : Option (Str × Int) := match e.key, e.val with
  | .str x _, .int n _ => some (x, n)
  | _, _ => none
def memL : List (Str × Int) := [("one", 2), ("up", 3), ("down", 3), ("every", 3)]
def memB (K : PySem.W.Frag) : Bool := match K.lookup (He.ga K "MEMBERS") with
  | some ⟨_, _, .dict es _, _⟩ => decide (es.toList.map memR = memL.map some)
  | _ => false
theorem mem_find : ∀ {l : List DictEntry} {ks : List (Str × Int)}, l.map memR = ks.map some → ∀ z, l.any (·.refKey) = false ∧ RelO ((ks.find? (fun k => decide (k.1 = z))).map fun k => V.int k.2) ((l.find? (·.key.isStr z)).map (·.val))
  | [], [], _, z => ⟨rfl, trivial⟩
  | [], k :: ks, h, z => by cases h
  | e :: l, [], h, z => by cases h
  | e :: l, k :: ks, h, z => by
    have h : memR e :: l.map memR = some k :: ks.map some := h
    injection h with h1 h2
    obtain ⟨i1, i2⟩ := mem_find h2 z
    obtain ⟨hs, ky, vl⟩ := e
    unfold memR at h1
    split at h1
    · rename_i x t n t' e1 e2
      simp only at e1 e2
      subst e1 e2
      cases h1
      refine ⟨?_, ?_⟩
      · rw [List.any_cons, i1]
        rfl
      · rw [List.find?_cons, List.find?_cons]
        have es : (Value.str x t).isStr z = decide (x = z) := by
          show (x == z) = decide (x = z)
          by_cases h : x = z
          · subst h
            rw [decide_eq_true rfl]
            exact beq_self_eq_true x
          · rw [decide_eq_false h]
            exact beq_eq_false_iff_ne.mpr h
        show RelO (Option.map _ (match decide (x = z) with | true => some (x, n) | false => List.find? _ ks)) (Option.map _ (match (Value.str x t).isStr z with | true => _ | false => _))
        rw [es]
        by_cases hz : x = z
        · rw [decide_eq_true hz]
          exact ⟨t', rfl⟩
        · rw [decide_eq_false hz]
          exact i2
    · cases h1
end Wd
end
section
set_option Elab.async false
set_option linter.all false
set_option maxRecDepth 100000
set_option maxHeartbeats 0
namespace Wd
open PySem PySem.Spec PyProof.Rows L2
def glD (x : Str) (st : Stmt) (dfl : List He.Dv) (kwd : List (Str × He.Dv)) : He.DefD := ⟨(x, none), x, x, defArgs st, defBody st, defScope st, dfl, kwd⟩
def meD (c m q : Str) (st : Stmt) (dfl : List He.Dv) (kwd : List (Str × He.Dv)) : He.DefD := ⟨(c, some m), m, q, defArgs st, defBody st, defScope st, dfl, kwd⟩
def names : List PySem.Str := (["_wall", "TURNED", "turned", "all_sums", "_plain_sum", "_upward_sums", "_least_sums", "WhosedayError", "BadPiece", "BadNumber", "is_integer", "MEMBERS", "MOST_COMPARED", "Days", "_is_piece", "_starts", "_law_pieces", "_law_in_piece", "_law_in_pieces", "_law_pen", "_law_draw", "_law_pick", "_law_refusal", "_law_no_piece"] : List PySem.Str)
def fas : List He.Fa := ([.glo "turned", .glo "all_sums", .glo "_plain_sum", .glo "_upward_sums", .glo "_least_sums", .glo "is_integer", .glo "_is_piece", .glo "_starts", .glo "_law_pieces", .glo "_law_in_piece", .glo "_law_in_pieces", .glo "_law_pen", .glo "_law_draw", .glo "_law_pick", .glo "_law_refusal", .glo "_law_no_piece", .glo "law", .glo "Days", .glo "TURNED", .glo "MEMBERS", .int "MOST_COMPARED" 10000, .free "all", .free "any", .free "bool", .free "enumerate", .free "int", .free "isinstance", .free "len", .free "list", .free "max"] : List He.Fa) ++
  ([.free "min", .free "property", .free "range", .free "sorted", .free "staticmethod", .free "str", .free "tuple", .cls "Days", .mkr "Days", .noat "Days" "pieces", .noat "Days" "_ones", .noat "Days" "_ups", .noat "Days" "_downs", .noat "Days" "_everys", .noat "Days" "_steps", .meth "Days" "__contains__", .meth "Days" "__add__", .meth "Days" "__or__", .meth "Days" "_steps_on", .glo "BadNumber", .exm "BadNumber" "BadNumber" true, .glo "BadPiece", .exm "BadPiece" "BadPiece" true] : List He.Fa)
def tst (K : PySem.W.Frag) : List Bool := [errB K (He.ga K "BadNumber"),
  iniB K "BadNumber" "number",
  errB K (He.ga K "BadPiece"),
  iniB K "BadPiece" "index",
  clsB K,
  He.eqO (PySem.W.findIn K (.ref (He.ga K "Days")) "same") (some (some (.ref (He.ma K (He.ga K "Days") "same")))),
  He.eqO (PySem.W.specialIn K (.ref (He.ma K (He.ga K "Days") "same")) "__get__") (some (some (.builtin "staticmethod.__get__"))),
  decide (PySem.W.typeIn K (.ref (He.ma K (He.ga K "Days") "same")) = some (.type "staticmethod")),
  He.eqO (PySem.W.findIn K (.type "type") "same") (some none),
  PySem.W.readsIn K (He.ga K "Days") (.type "type"),
  He.eqO (PySem.W.specialIn K (.ref (He.ga K "Days")) "__getattribute__") (some (some (.builtin "type.__getattribute__"))),
  recS K (He.ma K (He.ga K "Days") "same") (gtA K ("Days", some "same")),
  gtOk K (gsU.getD 0 ⟨("", none), "", "", defArgs (.Pass ⟨0, 0, 0, 0⟩), [], defScope (.Pass ⟨0, 0, 0, 0⟩), [], []⟩),
  memB K,
  decide (PySem.W.exmOne K (.ref (He.ga K "BadNumber")) (.ref (He.ga K "BadPiece")) = some false)]
def q (K : PySem.W.Frag) : Bool := fas.all (fun f => f.ok K) && (tst K).all id
def fn0 : List He.DefD := ([glD "turned" (top i_turned) [] [],
  glD "all_sums" (top i_all_sums) [] [],
  glD "_plain_sum" (top i__plain_sum) [] [],
  glD "_upward_sums" (top i__upward_sums) [] [],
  glD "_least_sums" (top i__least_sums) [] [],
  glD "is_integer" (top i_is_integer) [] [],
  glD "_is_piece" (top i__is_piece) [] [],
  glD "_starts" (top i__starts) [] []] : List He.DefD)
def fn1 : List He.DefD := ([glD "_law_pieces" (top i__law_pieces) [] [],
  glD "_law_in_piece" (top i__law_in_piece) [] [],
  glD "_law_in_pieces" (top i__law_in_pieces) [] [],
  glD "_law_pen" (top i__law_pen) [] [],
  glD "_law_draw" (top i__law_draw) [] [],
  glD "_law_pick" (top i__law_pick) [] [],
  glD "_law_refusal" (top i__law_refusal) [] [],
  glD "_law_no_piece" (top i__law_no_piece) [] []] : List He.DefD)
def fn2 : List He.DefD := ([glD "law" (top i_law) [] [],
  meD "Days" "__init__" "Days.__init__" (inClass (top i_Days) j_Days___init__) [] [],
  meD "Days" "__contains__" "Days.__contains__" (inClass (top i_Days) j_Days___contains__) [] [],
  meD "Days" "__add__" "Days.__add__" (inClass (top i_Days) j_Days___add__) [] [],
  meD "Days" "__or__" "Days.__or__" (inClass (top i_Days) j_Days___or__) [] [],
  meD "Days" "_steps_on" "Days._steps_on" (inClass (top i_Days) j_Days__steps_on) [] [],
  meD "BadNumber" "__init__" "BadNumber.__init__" (inClass (top i_BadNumber) j_BadNumber___init__) [] [],
  meD "BadPiece" "__init__" "BadPiece.__init__" (inClass (top i_BadPiece) j_BadPiece___init__) [] []] : List He.DefD)
def fn : List He.DefD := fn0 ++ fn1 ++ fn2
def tf : List He.Defn := [("law", none)]
def ts : List He.Tab := [((fun K => He.ga K "TURNED"), ["one", "up", "down", "every"]), ((fun K => He.ga K "MEMBERS"), ["one", "up", "down", "every"])]
abbrev R : PySem.W.OpenRow := PySem.W.OpenLaw.row PySem.Challenge.rw_whoseday_k24_pieces_that_are_none_and_se
end Wd
end
section
set_option Elab.async false
set_option linter.all false
set_option maxRecDepth 100000
set_option maxHeartbeats 0
namespace Wd
open PySem PySem.Spec PyProof.Rows L2
def asL : List Addr := ([3, 6, 4, 49, 50, 57, 62, 69, 74, 79, 89, 109, 128, 137, 138, 238, 247, 254, 261, 268, 273, 280, 287, 294, 301, 308, 313, 0, 48, 56, 61, 68, 73, 78, 88, 108, 127, 136, 237, 246] : List Addr) ++ ([253, 260, 267, 272, 279, 286, 293, 300, 307, 312, 43, 44, 45, 46, 47, 51, 52, 53, 54, 55, 58, 59, 60, 63, 64, 65, 66, 67, 70, 71, 72, 75, 76, 77, 87, 90, 106, 107, 125, 126] : List Addr) ++ ([131, 132, 133, 134, 135, 150, 155, 162, 169, 175, 183, 189, 197, 204, 211, 218, 227, 235, 236, 239, 240, 243, 244, 245, 248, 249, 250, 251, 252, 255, 256, 257, 258, 259, 262, 263, 264, 265, 266, 269] : List Addr) ++ ([270, 271, 274, 275, 276, 277, 278, 281, 282, 283, 284, 285, 288, 289, 290, 291, 292, 295, 296, 297, 298, 299, 302, 303, 304, 305, 306, 309, 310, 311, 105, 124, 149, 154, 161, 168, 174, 182, 188, 196] : List Addr) ++ ([203, 210, 217, 225, 226, 234, 100, 101, 102, 103, 104, 119, 120, 121, 122, 123, 146, 147, 148, 151, 152, 153, 156, 157, 158, 159, 160, 163, 164, 165, 166, 167, 173, 181, 187, 195, 198, 199, 200, 201] : List Addr) ++ ([202, 205, 206, 207, 208, 209, 212, 213, 214, 215, 216, 224, 228, 229, 230, 231, 232, 233, 2] : List Addr)
abbrev hk : PySem.W.Hook := hookU asL q fn ts tf
def ob (s : PySem.W.SharedT) : He.AlX := seeU asL q fn ts tf (HandSHeadRun.getT s)
theorem ob_eq (s : PySem.W.SharedT) : ob s = hk.obs s.abs := seeU_eq (HandSHeadRun.getT_eq s)
noncomputable abbrev endI (w : World) := HandSHeadRun.wholeF (fun p => HandSHeadRun.stepQ (HandSHeadRun.denQ HandSHeadRun.tabQ) p w) HandSHeadRun.fenceQ 12000 R.prog
noncomputable abbrev endW (w : World) (os : OsState) := (endI w).map (fun x => x.2)
abbrev KK (s : PySem.W.SharedT) : PySem.W.Frag := He.frG (HandSHeadRun.getT s) asL
theorem glue {x : Option (Shared × PySem.W.SharedT)} {l : Shared × PySem.W.SharedT → Bool} {β : Type} {se : PySem.W.SharedT → β} {g : β} {w : World}
    (a : x.map (fun s => (l s, se s.2)) = some (true, g)) (d : x.map (fun s => ob s.2) = some (hk.val w)) :
    x.map (fun s => (l s, se s.2, ob s.2)) = some (true, g, hk.val w) := by
  cases x with
  | none => cases a
  | some s =>
    have a' := Option.some.inj a
    have d' : ob s.2 = hk.val w := Option.some.inj d
    have a1 : l s = true := congrArg Prod.fst a'
    have a2 : se s.2 = g := congrArg Prod.snd a'
    show some (l s, se s.2, ob s.2) = some (true, g, hk.val w)
    rw [a1, a2, d']; rfl
end Wd
end
section
set_option Elab.async false
set_option linter.all false
set_option maxRecDepth 100000
set_option maxHeartbeats 0
namespace Wd
open PySem PySem.Spec PyProof.Rows L2
theorem runAf (w : World) : (endI (w.withFollow "special-get-raises" false)).map (fun s => (HandSHeadRun.looksF R.prog s.1.heap s.2.abs, HandSHeadRun.seenQ (PySem.W.view R.prog [0, 30]) names (importedModules R.prog.main.body) (fun s => PySem.W.xlAt (PySem.W.view R.prog [0, 30]) [] s && PySem.W.recOk R.toRowW.records s) s.2.abs)) = some (true, PySem.W.openGood (PySem.W.view R.prog [0, 30]) names) := by kernel_rfl
end Wd
end
section
set_option Elab.async false
set_option linter.all false
set_option maxRecDepth 100000
set_option maxHeartbeats 0
namespace Wd
open PySem PySem.Spec PyProof.Rows L2
theorem runBf (w : World) : (endI (w.withFollow "special-get-raises" false)).map (fun s => ob s.2) = some (hk.val (w.withFollow "special-get-raises" false)) := by kernel_rfl
end Wd
end
section
set_option Elab.async false
set_option linter.all false
set_option maxRecDepth 100000
set_option maxHeartbeats 0
namespace Wd
open PySem PySem.Spec PyProof.Rows L2
theorem runAt (w : World) : (endI (w.withFollow "special-get-raises" true)).map (fun s => (HandSHeadRun.looksF R.prog s.1.heap s.2.abs, HandSHeadRun.seenQ (PySem.W.view R.prog [0, 30]) names (importedModules R.prog.main.body) (fun s => PySem.W.xlAt (PySem.W.view R.prog [0, 30]) [] s && PySem.W.recOk R.toRowW.records s) s.2.abs)) = some (true, PySem.W.openGood (PySem.W.view R.prog [0, 30]) names) := by kernel_rfl
end Wd
end
section
set_option Elab.async false
set_option linter.all false
set_option maxRecDepth 100000
set_option maxHeartbeats 0
namespace Wd
open PySem PySem.Spec PyProof.Rows L2
theorem runBt (w : World) : (endI (w.withFollow "special-get-raises" true)).map (fun s => ob s.2) = some (hk.val (w.withFollow "special-get-raises" true)) := by kernel_rfl
end Wd
end
section
set_option Elab.async false
set_option linter.all false
set_option maxRecDepth 100000
set_option maxHeartbeats 0
namespace Wd
open PySem PySem.Spec PyProof.Rows L2
theorem run (w : World) : HandSHeadRun.RunEqI R (PySem.W.view R.prog [0, 30]) hk ob 12000 names w :=
  PySem.W.byRow2 "special-get-raises" (P := fun w => HandSHeadRun.RunEqI R (PySem.W.view R.prog [0, 30]) hk ob 12000 names w)
    (fun w => glue (l := fun x => HandSHeadRun.looksF R.prog x.1.heap x.2.abs) (se := fun s => HandSHeadRun.seenQ (PySem.W.view R.prog [0, 30]) names (importedModules R.prog.main.body) (fun s => PySem.W.xlAt (PySem.W.view R.prog [0, 30]) [] s && PySem.W.recOk R.toRowW.records s) s.abs) (runAf w) (runBf w)) (fun w => glue (l := fun x => HandSHeadRun.looksF R.prog x.1.heap x.2.abs) (se := fun s => HandSHeadRun.seenQ (PySem.W.view R.prog [0, 30]) names (importedModules R.prog.main.body) (fun s => PySem.W.xlAt (PySem.W.view R.prog [0, 30]) [] s && PySem.W.recOk R.toRowW.records s) s.abs) (runAt w) (runBt w)) w
end Wd
end
section
set_option Elab.async false
set_option linter.all false
set_option maxRecDepth 100000
set_option maxHeartbeats 1000000
namespace Wd
open PySem PySem.Spec PyProof.Rows L2
abbrev FnG (K : PySem.W.Frag) (x : Str) (i : Nat) (f : Addr) (fd : FuncData) : Prop := FunD K x x (defArgs (top i)) (defBody (top i)) (defScope (top i)) [] [] f fd
/-! ### the pen -/
def penD (l : Addr) (a b : Int) : List (Key × V) := [(Sum.inr "cells", .ref l), (Sum.inr "at", .int a), (Sum.inr "left", .int b)]
theorem k1 : ¬ (("cells" : Str) = "at") := by decide +kernel
theorem k2 : ¬ (("cells" : Str) = "left") := by decide +kernel
theorem k3 : ¬ (("at" : Str) = "left") := by decide +kernel
theorem j1 : ¬ ((Sum.inr ("cells" : Str) : Key) = Sum.inr ("at" : Str)) := fun z => k1 (Sum.inr.inj z)
theorem j2 : ¬ ((Sum.inr ("cells" : Str) : Key) = Sum.inr ("left" : Str)) := fun z => k2 (Sum.inr.inj z)
theorem j3 : ¬ ((Sum.inr ("at" : Str) : Key) = Sum.inr ("left" : Str)) := fun z => k3 (Sum.inr.inj z)
section
variable {l d : Addr} {a b x : Int} {H : Hp}
theorem pd_cells : valV (penD l a b) (Sum.inr "cells") = some (.ref l) := valV_pos rfl
theorem pd_at : valV (penD l a b) (Sum.inr "at") = some (.int a) := (valV_neg j1).trans (valV_pos rfl)
theorem pd_left : valV (penD l a b) (Sum.inr "left") = some (.int b) := (valV_neg j2).trans ((valV_neg j3).trans (valV_pos rfl))
theorem pp_at : putK (penD l a b) (Sum.inr "at") (.int x) = penD l x b := by
  simp [putK, penD, k1, Ne.symm k3]
theorem pp_left : putK (penD l a b) (Sum.inr "left") (.int x) = penD l a x := by
  simp [putK, penD, k2, k3]
theorem gt_cells (h : H d = some (.dK (penD l a b))) : DGet H d (.str "cells") (some (.ref l)) := by
  have z := DGet.k (k := Sum.inr "cells") h
  rw [pd_cells] at z
  exact z
theorem gt_at (h : H d = some (.dK (penD l a b))) : DGet H d (.str "at") (some (.int a)) := by
  have z := DGet.k (k := Sum.inr "at") h
  rw [pd_at] at z
  exact z
theorem gt_left (h : H d = some (.dK (penD l a b))) : DGet H d (.str "left") (some (.int b)) := by
  have z := DGet.k (k := Sum.inr "left") h
  rw [pd_left] at z
  exact z
theorem pt_at (h : H d = some (.dK (penD l a b))) : DPut H d (.str "at") (.int x) (upd H d (.dK (penD l x b))) := by
  have z := DPut.k (k := Sum.inr "at") (v := .int x) h (small1000 (show 3 ≤ 1000 by decide))
  rw [pp_at] at z
  exact z
theorem pt_left (h : H d = some (.dK (penD l a b))) : DPut H d (.str "left") (.int x) (upd H d (.dK (penD l a x))) := by
  have z := DPut.k (k := Sum.inr "left") (v := .int x) h (small1000 (show 3 ≤ 1000 by decide))
  rw [pp_left] at z
  exact z
end
theorem ifT {p : Prop} [Decidable p] {A B : Prop} (h : p) (a : A) : if decide p = true then A else B := by rw [if_pos (decide_eq_true h)]; exact a
theorem ifF {p : Prop} [Decidable p] {A B : Prop} (h : ¬ p) (b : B) : if decide p = true then A else B := by
  rw [decide_eq_false h, if_neg Bool.false_ne_true]
  exact b
theorem ifC {p : Prop} [Decidable p] {A B : Prop} (a : p → A) (b : ¬ p → B) : if decide p = true then A else B := by
  by_cases h : p
  · exact ifT h (a h)
  · exact ifF h (b h)
theorem cm1 (x y : Int) : CMul (x % 2147483629 + 1) y := .inl ⟨by omega, by omega⟩
theorem cm2 (x y : Int) : CMul (x % 2147483647) y := .inl ⟨by omega, by omega⟩
theorem cm3 (x y : Int) : CMul (x % 2147483587) y := .inl ⟨by omega, by omega⟩
/-- at d a pen over a list at l, with a next place -/
def Pen (H : Hp) (d l : Addr) (a : Int) : Prop :=
  ∃ (cs : List Int) (b : Int), H d = some (.dK (penD l a b)) ∧ H l = some (.lst (cs.map V.int)) ∧ cs.length ≤ 63 ∧ 0 ≤ b ∧ 0 ≤ a
/-- all but the pen's dict stands as before -/
def But (d : Addr) (H H' : Hp) : Prop := ∀ c o, H c = some o → c ≠ d → H' c = some o
theorem But.refl {d : Addr} {H : Hp} : But d H H := fun _ _ z _ => z
theorem But.trans {d : Addr} {H H1 H2 : Hp} (x : But d H H1) (y : But d H1 H2) : But d H H2 := fun c o z n => y c o (x c o z n) n
theorem But.same {d : Addr} {H H1 : Hp} (x : Same H H1) : But d H H1 := fun c o z _ => x c o z
theorem But.upd {d : Addr} {H : Hp} {o : HO} : But d H (upd H d o) := fun c u z n => by rw [upd_ne n]; exact z
def spPen (K : PySem.W.Frag) : Sp := fun vs H Q _ => ∃ (a : Addr) (ns : List Int), vs = [.ref a] ∧ SqL K H a (ns.map V.int) ∧ ns.length ≤ 63 ∧
  ∀ H' d l, Same H H' → H d = none → H l = none → Pen H' d l 0 → Q (.ref d) H'
def spDraw : Sp := fun vs H Q _ => ∃ (d l : Addr) (a n : Int), vs = [.ref d, .int n] ∧ Pen H d l a ∧ a ≤ 100000 ∧ 0 < n ∧ n < 1073741824 ∧
  ∀ r a' H', 0 ≤ r → r < n → a ≤ a' → a' ≤ a + 1 → Pen H' d l a' → But d H H' → Q (.int r) H'
def spPick (K : PySem.W.Frag) : Sp := fun vs H Q _ => ∃ (d l : Addr) (a : Int) (s : V), vs = [.ref d, s] ∧ Pen H d l a ∧ a ≤ 100000 ∧
  ((∃ t xs, s = .ref t ∧ t ≠ d ∧ H t = some (.lst xs) ∧ xs ≠ [] ∧ xs.length ≤ 1000 ∧ ∀ x a' H', x ∈ xs → a ≤ a' → a' ≤ a + 1 → Pen H' d l a' → But d H H' → Q x H') ∨
   ∃ z : Str, s = .str z ∧ z.cps.toList ≠ [] ∧ z.length ≤ 1000 ∧ ∀ c a' H', c ∈ z.cps.toList → a ≤ a' → a' ≤ a + 1 → Pen H' d l a' → But d H H' → Q (.str ⟨#[c]⟩) H')
structure TxtP (mg : Str → Option Value) : Prop where
  list : mg "list" = none
  int : mg "int" = none
  len : mg "len" = none
theorem dp_ints {K : PySem.W.Frag} {H : Hp} : ∀ cs : List Int, DpAll K H (cs.map V.int) (cs.map PyData.int)
  | [] => .nil
  | c :: r => .cons (.int c) (dp_ints r)
theorem shaped_ints0 (cs : List Int) : SeqAt.shaped (.list (cs.map PyData.int)) = true := PySem.W.ke_shaped_ints cs
theorem at_mod {cs : List Int} (h : cs ≠ []) (a : Int) : (0 : Int) < (cs.length : Int) ∧ ∃ c, atI (cs.map V.int) (a % (cs.length : Int)) = some (.int c) := by
  have pos : (0 : Int) < (cs.length : Int) := by
    have := List.length_pos_iff.mpr h
    omega
  obtain ⟨j, hj⟩ := Int.eq_ofNat_of_zero_le (Int.emod_nonneg a (show (cs.length : Int) ≠ 0 by omega))
  have lt := Int.emod_lt_of_pos a pos
  rw [hj] at lt ⊢
  have lt2 : j < cs.length := by omega
  refine ⟨pos, cs[j], atI_nat ?_⟩
  rw [List.getElem?_map, List.getElem?_eq_getElem lt2]
  rfl
theorem cut_ints (ns : List Int) (lo hi : Option Int) : ∃ cs : List Int, cutV (ns.map V.int) lo hi = cs.map V.int ∧ cs.length ≤ ns.length := by
  refine ⟨(ns.drop (HT.sIx (ns.map V.int).length 0 lo)).take (HT.sIx (ns.map V.int).length (ns.map V.int).length hi - HT.sIx (ns.map V.int).length 0 lo), ?_, ?_⟩
  · unfold cutV
    rw [List.map_take, List.map_drop]
  · rw [List.length_take, List.length_drop]
    omega
section
variable {P : Program} {w : World} {K : PySem.W.Frag} {mg : Str → Option Value} {base : Heap} {f : Addr} {fd : FuncData}
theorem scPen : FnScope ["_law_script"] ["_law_script"] (defScope (top i__law_pen)) := ⟨rfl, rfl, rfl, by decide +kernel, rfl, by decide +kernel, by decide +kernel⟩
theorem ok_pen (F : FnG K "_law_pen" i__law_pen f fd) (T : TxtP mg) : FnOk P w K mg base CX0 1 f fd ["_law_script"] (spPen K) := by
  refine F.ok scPen (fun vs H Q E h => ?_) (fun cdv A outer s H vs Q E hr h => ?_)
  · obtain ⟨a, ns, rfl, _⟩ := h
    rfl
  · obtain ⟨a, ns, rfl, hs, hl, k⟩ := h
    refine ⟨_, PSs.nox (pss_one (ps_ret (pe_disp (pps_cons pe_str (pe_callTy call_list_of (by rfl) T.list (by decide +kernel) (pa_cons (pe_slice sl_list (pv 0) po_none (po_some pe_int)) pa_nil))
      (pps_cons pe_str pe_int (pps_cons pe_str pe_int pps_nil))) (by rfl) (by rfl) (fun z => by cases z) (by decide)))), ?_⟩
    intro p hp
    have np : ∀ {c : Addr} {o : HO}, H c = some o → c ≠ p := fun z => ne_of_none z hp
    have h0 : Same H (upd H p (.dK [])) := fun c o z => by
      rw [upd_ne (np z)]
      exact z
    refine ⟨_, rfl, 63, rfl, a, _, rfl, h0.seq hs, fun s1 hs1 => ?_⟩
    refine ⟨s1, _, rfl, .inl (SqL.of upd_same), fun l hl1 => ?_⟩
    obtain ⟨cs, hc, hz⟩ := cut_ints ns none (some 63)
    rw [hc] at hl1
    rw [hc]
    have e1 : p ≠ s1 := ne_of_none upd_same hs1
    have e2 : p ≠ l := fun z => by
      rw [← z, upd_ne e1, upd_same] at hl1
      cases hl1
    have e3 : s1 ≠ l := ne_of_none upd_same hl1
    have nl : H l = none := by
      rw [upd_ne e3.symm, upd_ne e2.symm] at hl1
      exact hl1
    have ns1 : H s1 = none := by
      rw [upd_ne e1.symm] at hs1
      exact hs1
    refine ⟨by rw [upd_ne e2, upd_ne e1, upd_same], penD l 0 0, rfl, (show 3 ≤ 15 by decide), ?_⟩
    have em : mergeK [] (penD l 0 0) = penD l 0 0 := by
      simp [mergeK, penD, putK, k1, k2, k3]
    rw [em]
    refine k _ p l (fun c o z => ?_) hp nl ⟨cs, 0, upd_same, ?_, by omega, Int.le_refl 0, Int.le_refl 0⟩
    · rw [upd_ne (np z), upd_ne (ne_of_none z nl), upd_ne (ne_of_none z ns1), upd_ne (np z)]
      exact z
    · rw [upd_ne e2.symm, upd_same]
theorem scDraw : FnScope ["_law_pen_here", "_law_many", "_law_digit", "_law_spot", "_law_cell", "_law_mixed"] ["_law_pen_here", "_law_many"] (defScope (top i__law_draw)) := ⟨rfl, rfl, rfl, by decide +kernel, rfl, by decide +kernel, by decide +kernel⟩
theorem ok_draw (F : FnG K "_law_draw" i__law_draw f fd) (T : TxtP mg) : FnOk P w K mg base CX0 1 f fd ["_law_pen_here", "_law_many"] spDraw := by
  refine F.ok scDraw (fun vs H Q E h => ?_) (fun cdv A outer s H vs Q E hr h => ?_)
  · obtain ⟨d, l, a, n, rfl, _⟩ := h
    rfl
  · obtain ⟨d, l, a, n, rfl, ⟨cs, b, hd, hl, hz, hb, ha⟩, ha2, hn, hn2, k⟩ := h
    have hu := hu_of hr
    have hu64 := hr.units
    refine ⟨_, PSs.nox (pss_cons (ps_if (pt_cmpR op_ge (pe_dget hu (pv 0) pe_str (fun _ _ => rfl)) (pv 1) (nomark _)) (pss_cons (ps_set (i := 2) scDraw.nd rfl (Or.inl rfl) (pe_op op_mod (pe_callTy call_int1 (by rfl) T.int (by decide +kernel) (pa_cons (pe_dget hu (pv 0) pe_str (fun _ _ => rfl)) pa_nil)) (pv 1)))
        (pss_cons (ps_dput hu (pv 0) pe_str (pe_op op_fdiv (pe_dget hu (pv 0) pe_str (fun _ _ => rfl)) (pv 1)) rfl)
        (pss_one (ps_ret (pv 2))))) pss_nil)
        (pss_cons (ps_set (i := 3) scDraw.nd rfl (Or.inl rfl) (pe_dget hu (pv 0) pe_str (fun _ _ => rfl)))
        (pss_cons (ps_dput hu (pv 0) pe_str (pe_op op_add (pv 3) pe_int) rfl)
        (pss_cons (ps_set (i := 4) scDraw.nd rfl (Or.inl rfl) (pe_op op_add (pe_op op_mul pe_int (pv 3)) pe_int))
        (pss_cons (ps_if (pt_cmpR (op_neD hu64) (pe_dget hu (pv 0) pe_str (fun _ _ => rfl)) (pe_lst pa_nil) (nomark _)) (pss_one (ps_set (i := 4) scDraw.nd rfl (Or.inl rfl) (pe_ix ix_list (pe_dget hu (pv 0) pe_str (fun _ _ => rfl)) (pe_op op_mod (pe_callTy call_int1 (by rfl) T.int (by decide +kernel) (pa_cons (pv 3) pa_nil)) (pe_callB call_len (by rfl) T.len PySem.boot_len (pa_cons (pe_dget hu (pv 0) pe_str (fun _ _ => rfl)) pa_nil))) (fun _ _ => rfl)))) pss_nil)
        (pss_cons (ps_if (PW.pt (pw_and (pt_cmpR op_lt (pv 3) (pe_callB call_len (by rfl) T.len PySem.boot_len (pa_cons (pe_dget hu (pv 0) pe_str (fun _ _ => rfl)) pa_nil)) (nomark _)) (pw_and1 (pt_cmpR op_ge (pv 4) (pe_op op_pow pe_int pe_int) (nomark _))))) (pss_cons (ps_dput hu (pv 0) pe_str (pe_op op_fdiv (pe_op op_sub (pv 4) (pe_op op_pow pe_int pe_int)) (pv 1)) rfl)
        (pss_one (ps_ret (pe_op op_mod (pe_callTy call_int1 (by rfl) T.int (by decide +kernel) (pa_cons (pe_op op_sub (pv 4) (pe_op op_pow pe_int pe_int)) pa_nil)) (pv 1))))) pss_nil)
        (pss_cons (ps_set (i := 5) scDraw.nd rfl (Or.inl rfl) (pe_op op_add (pe_op op_add (pe_op op_mul (pe_op op_add (pe_op op_mod (pe_callTy call_int1 (by rfl) T.int (by decide +kernel) (pa_cons (pv 4) pa_nil)) pe_int) pe_int) (pe_op op_add (pe_op op_mul pe_int (pv 3)) pe_int)) (pe_op op_mul (pe_op op_mul pe_int (pv 3)) (pv 3))) pe_int))
        (pss_cons (ps_set (i := 5) scDraw.nd rfl (Or.inl rfl) (pe_op op_mod (pe_callTy call_int1 (by rfl) T.int (by decide +kernel) (pa_cons (pv 5) pa_nil)) pe_int))
        (pss_cons (ps_set (i := 5) scDraw.nd rfl (Or.inl rfl) (pe_op op_mod (pe_callTy call_int1 (by rfl) T.int (by decide +kernel) (pa_cons (pe_op op_mul (pv 5) (pe_op op_add (pv 5) pe_int)) pa_nil)) pe_int))
        (pss_cons (ps_set (i := 5) scDraw.nd rfl (Or.inl rfl) (pe_op op_mod (pe_callTy call_int1 (by rfl) T.int (by decide +kernel) (pa_cons (pe_op op_mul (pv 5) (pv 5)) pa_nil)) pe_int))
        (pss_one (ps_ret (pe_op op_mod (pe_callTy call_int1 (by rfl) T.int (by decide +kernel) (pa_cons (pe_op op_fdiv (pv 5) pe_int) pa_nil)) (pv 1)))))))))))))), ?_⟩
    refine ⟨_, rfl, d, _, rfl, gt_left hd, _, rfl, _, _, rfl, rfl, _, rfl, ?_⟩
    by_cases hc : n ≤ b
    · refine ifT hc ?_
      refine ⟨_, rfl, d, _, rfl, gt_left hd, .inl ⟨b, rfl, ?_⟩⟩
      refine ⟨_, rfl, b, n, rfl, rfl, hn, ?_⟩
      refine ⟨_, rfl, d, _, rfl, gt_left hd, _, rfl, b, n, rfl, rfl, ⟨hn, hn2⟩, ?_⟩
      refine ⟨_, rfl, d, _, rfl, pt_left hd, ?_⟩
      refine ⟨_, rfl, ?_⟩
      have dl : l ≠ d := ne_of hl hd (by intro z; cases z)
      exact k _ a _ (Int.emod_nonneg b (by omega)) (Int.emod_lt_of_pos b hn) (Int.le_refl a) (by omega)
        ⟨cs, b / n, upd_same, by rw [upd_ne dl]; exact hl, hz, Int.ediv_nonneg hb (by omega), ha⟩ But.upd
    · refine ifF hc ?_
      have dl : l ≠ d := ne_of hl hd (by intro z; cases z)
      refine ⟨_, rfl, d, _, rfl, gt_at hd, ?_⟩
      refine ⟨_, rfl, a, 1, rfl, rfl, _, rfl, d, _, rfl, pt_at hd, ?_⟩
      refine ⟨_, rfl, 37, a, rfl, rfl, .inl ⟨by decide, by decide⟩, _, _, rfl, rfl, ?_⟩
      refine ⟨_, rfl, d, _, rfl, gt_cells upd_same, Nat.zero_le _, fun p hp => ?_⟩
      have hl1 : upd H d (.dK (penD l (a + 1) b)) l = some (.lst (cs.map V.int)) := by rw [upd_ne dl]; exact hl
      have lp : l ≠ p := ne_of_none hl1 hp
      have dp : d ≠ p := ne_of_none upd_same hp
      have h2l : upd (upd H d (.dK (penD l (a + 1) b))) p (.lst []) l = some (.lst (cs.map V.int)) := by rw [upd_ne lp]; exact hl1
      have h2d : upd (upd H d (.dK (penD l (a + 1) b))) p (.lst []) d = some (.dK (penD l (a + 1) b)) := by rw [upd_ne dp, upd_same]
      have h2b : But d H (upd (upd H d (.dK (penD l (a + 1) b))) p (.lst [])) := fun c o z n => by
        have z1 : upd H d (.dK (penD l (a + 1) b)) c = some o := by rw [upd_ne n]; exact z
        rw [upd_ne (ne_of_none z1 hp)]
        exact z1
      refine ⟨_, _, .lst (SqL.of h2l) (dp_ints cs), .lst (SqL.of upd_same) .nil, shaped_ints0 cs, shaped_ints0 [], _, rfl, ?_⟩
      generalize upd (upd H d (.dK (penD l (a + 1) b))) p (.lst []) = H2 at h2l h2d h2b ⊢
      have out : ∀ (r b' : Int), 0 ≤ r → r < n → 0 ≤ b' → Q (.int r) (upd H2 d (.dK (penD l (a + 1) b'))) := fun r b' r0 rn b0 =>
        k r (a + 1) _ r0 rn (by omega) (Int.le_refl _) ⟨cs, b', upd_same, by rw [upd_ne dl]; exact h2l, hz, b0, by omega⟩ (h2b.trans But.upd)
      have out2 : ∀ (r : Int), 0 ≤ r → r < n → Q (.int r) H2 := fun r r0 rn =>
        k r (a + 1) _ r0 rn (by omega) (Int.le_refl _) ⟨cs, b, h2d, h2l, hz, hb, by omega⟩ h2b
      by_cases hcs : cs = []
      all_goals first
        | (have hcs0 : cs = [] := hcs
           rw [show (!PyData.eqv (.list (cs.map PyData.int)) (.list [])) = false from by rw [hcs]; rfl]
           refine iteF ?_)
        | (rw [show (!PyData.eqv (.list (cs.map PyData.int)) (.list [])) = true from by
             obtain ⟨c0, cr, rfl⟩ := List.exists_cons_of_ne_nil hcs
             rfl]
           refine iteT ?_
           obtain ⟨pos, c, at_⟩ := at_mod hcs a
           refine ⟨_, rfl, d, _, rfl, gt_cells h2d, _, rfl, .inl ⟨a, rfl, _, rfl, d, _, rfl, gt_cells h2d, _, cs.length, rfl, .inl ⟨_, SqL.of h2l, by rw [List.length_map]⟩, _, _, rfl, rfl, pos, l, _, _, _, rfl, rfl, SqL.of h2l, at_, ?_⟩⟩)
      all_goals
        refine ⟨_, rfl, _, rfl, d, _, rfl, gt_cells h2d, _, cs.length, rfl, .inl ⟨_, SqL.of h2l, by rw [List.length_map]⟩, _, _, rfl, rfl, _, rfl, ?_⟩
        refine ifC (fun hlt => ?_) (fun hlt => ?_)
      all_goals first
        | (refine ⟨_, rfl, 10, 18, rfl, rfl, ⟨by decide, by decide, by decide⟩, _, _, rfl, rfl, _, rfl, ?_⟩
           refine ifC (fun hge => ?_) (fun hge => ?_))
        | refine iteF ?_
      all_goals first
        | (refine ⟨_, rfl, 10, 18, rfl, rfl, ⟨by decide, by decide, by decide⟩, _, _, rfl, rfl, _, rfl, _, _, rfl, rfl, ⟨hn, hn2⟩, _, rfl, d, _, rfl, pt_left h2d, ?_⟩
           refine ⟨_, rfl, 10, 18, rfl, rfl, ⟨by decide, by decide, by decide⟩, _, _, rfl, rfl, .inl ⟨_, rfl, _, rfl, _, _, rfl, rfl, hn, ?_⟩⟩
           exact out _ _ (Int.emod_nonneg _ (by omega)) (Int.emod_lt_of_pos _ hn) (Int.ediv_nonneg (Int.sub_nonneg_of_le hge) (by omega)))
        | (refine ⟨_, rfl, .inl ⟨_, rfl, _, _, rfl, rfl, (show (0 : Int) < 2147483629 by decide), _, _, rfl, rfl, _, rfl, _, _, rfl, rfl, .inl ⟨by decide, by decide⟩, _, _, rfl, rfl, _, _, rfl, rfl, cm1 _ _,
             _, rfl, _, _, rfl, rfl, .inl ⟨by decide, by decide⟩, _, rfl, _, _, rfl, rfl, .inl ⟨by omega, by omega⟩, _, _, rfl, rfl, _, _, rfl, rfl, ?_⟩⟩
           refine ⟨_, rfl, .inl ⟨_, rfl, _, _, rfl, rfl, (show (0 : Int) < 2147483647 by decide), ?_⟩⟩
           refine ⟨_, rfl, _, rfl, _, _, rfl, rfl, _, _, rfl, rfl, cm2 _ _, .inl ⟨_, rfl, _, _, rfl, rfl, (show (0 : Int) < 2147483587 by decide), ?_⟩⟩
           refine ⟨_, rfl, _, rfl, _, _, rfl, rfl, cm3 _ _, .inl ⟨_, rfl, _, _, rfl, rfl, (show (0 : Int) < 2147483563 by decide), ?_⟩⟩
           refine ⟨_, rfl, _, _, rfl, rfl, ⟨by decide, by decide⟩, .inl ⟨_, rfl, _, rfl, _, _, rfl, rfl, hn, ?_⟩⟩
           exact out2 _ (Int.emod_nonneg _ (by omega)) (Int.emod_lt_of_pos _ hn))
end
end Wd
end
section
set_option Elab.async false
set_option linter.all false
set_option maxRecDepth 100000
set_option maxHeartbeats 1000000
namespace Wd
open PySem PySem.Spec PyProof.Rows L2
/-- a def of the text: what it keeps, under its name -/
structure Df (P : Program) (w : World) (K : PySem.W.Frag) (mg : Str → Option Value) (base : Heap) (CX : CXT) (k : Nat) (x : Str) (ps : List Str) (sp : Sp) : Prop where
  ex : ∃ f fd, FnOk P w K mg base CX k f fd ps sp ∧ mg x = some (.ref f) ∧ PySem.W.keepIn K (.ref f) = true ∧ Binds K fd ps []
section
variable {X : Cx} {CX : CXT} {k : Nat} {x : Str} {ps : List Str} {sp : Sp} {E : XK} {e : Expr} {es : List Expr} {t : TA} {p pos : Pos}
theorem pe_cd (D : Df X.prog X.w X.K X.mg X.base CX k x ps sp) (hr : Room k X.A) (hx : Passes CX X E) (ha : PA X (e :: es) t) (hg : Gl X x := by rfl)
    (hdb : (x == ("__debug__" : Str)) = false := by decide)
    (he : starEach (e :: es) X.env = (false, eval e X.env) :: starEach es X.env := by rfl) (hpl : (backTo pos (starEach es X.env)).any (·.1) = false := by rfl) :
    PE X (.Call (.Name x p) (e :: es) [] pos) (tCall sp [] E t) := by
  obtain ⟨f, fd, G, hm, hk, hb⟩ := D.ex
  exact pe_call G hr hg hm hk hb .nil hx ha hdb he hpl
end
section
variable {P : Program} {w : World} {K : PySem.W.Frag} {mg : Str → Option Value} {base : Heap} {f : Addr} {fd : FuncData}
theorem same_upd {H : Hp} {a : Addr} {o : HO} (ha : H a = none) : Same H (upd H a o) := fun b z hb => by
  rw [upd_ne (ne_of_none hb ha)]
  exact hb
theorem Pen.same {d l : Addr} {a : Int} {H H' : Hp} (s : Same H H') (h : Pen H d l a) : Pen H' d l a := by
  obtain ⟨cs, b, h1, h2, h3⟩ := h
  exact ⟨cs, b, s _ _ h1, s _ _ h2, h3⟩
theorem scPick : FnScope ["_law_pen_here", "_law_some"] ["_law_pen_here", "_law_some"] (defScope (top i__law_pick)) := ⟨rfl, rfl, rfl, by decide +kernel, rfl, by decide +kernel, by decide +kernel⟩
theorem ok_pick (F : FnG K "_law_pick" i__law_pick f fd) (T : TxtP mg) (Dd : Df P w K mg base CX0 1 "_law_draw" ["_law_pen_here", "_law_many"] spDraw) : FnOk P w K mg base CX0 2 f fd ["_law_pen_here", "_law_some"] (spPick K) := by
  refine F.ok scPick (fun vs H Q E h => ?_) (fun cdv A outer s H vs Q E hr h => ?_)
  · obtain ⟨d, l, a, s, rfl, _⟩ := h
    rfl
  · obtain ⟨d, l, a, v, rfl, hp, ha, h⟩ := h
    refine ⟨_, PSs.nox (pss_one (ps_ret (pe_ix ix_seq (pv 1) (pe_cd Dd (hr.mono (by decide)) pass0 (pa_cons (pv 0) (pa_cons (pe_callB call_len (by rfl) T.len PySem.boot_len (pa_cons (pv 1) pa_nil)) pa_nil))) (fun _ _ => rfl)))), ?_⟩
    rcases h with ⟨t, xs, rfl, td, ht, hx, hz, k⟩ | ⟨z, rfl, hx, hz, k⟩
    · have pos : 0 < xs.length := List.length_pos_iff.mpr hx
      refine ⟨_, rfl, _, rfl, _, rfl, _, xs.length, rfl, .inl ⟨_, SqL.of ht, rfl⟩, d, l, a, xs.length, rfl, hp, ha, by omega, by omega, fun r a' H1 r0 rn g1 g2 p1 b1 => ?_⟩
      obtain ⟨j, hj⟩ := Int.eq_ofNat_of_zero_le r0
      subst hj
      have lt : j < xs.length := by omega
      exact .inl ⟨t, xs, _, _, rfl, rfl, SqL.of (b1 t _ ht td), atI_nat (List.getElem?_eq_getElem lt), k _ a' H1 (List.getElem_mem lt) g1 g2 p1 b1⟩
    · have pos : 0 < z.cps.toList.length := List.length_pos_iff.mpr hx
      have ez : z.length = z.cps.toList.length := by simp [Str.length]
      refine ⟨_, rfl, _, rfl, _, rfl, _, z.length, rfl, ⟨by rw [sizeLine_eq]; omega, rfl⟩, d, l, a, z.length, rfl, hp, ha, by omega, by omega, fun r a' H1 r0 rn g1 g2 p1 b1 => ?_⟩
      obtain ⟨j, hj⟩ := Int.eq_ofNat_of_zero_le r0
      subst hj
      have lt : j < z.cps.toList.length := by omega
      exact .inr (.inr ⟨z, _, _, rfl, rfl, by rw [sizeLine_eq]; omega, atI_nat (List.getElem?_eq_getElem lt), k _ a' H1 (List.getElem_mem lt) g1 g2 p1 b1⟩)
end
end Wd
end
section
set_option Elab.async false
set_option linter.all false
set_option maxRecDepth 100000
set_option maxHeartbeats 4000000
/-! Numbers and names in texts. -/
namespace Wt
open PySem TL NumText Builtin.Str PySem.StrLaws
/-- the figures of a word: without a sign - ahead -/
def figL : List Nat → List Nat
  | [] => []
  | c :: r => if c = 45 then r else c :: r
def fig (x : Str) : Str := Txt.removeprefix x "-"
theorem dash : tl ("-" : Str) = [45] := by decide +kernel
theorem zero1 : tl ("0" : Str) = [48] := by decide +kernel
theorem fig_tl (x : Str) : tl (fig x) = figL (tl x) := by
  have hx := len_tl x
  have e : subAt x "-" 0 = true ↔ ∃ r, tl x = 45 :: r := by
    rw [subAt_eq, List.drop_zero, show ("-" : Str).length = 1 from by decide +kernel]
    show ((tl x).take 1 == tl ("-" : Str)) = true ↔ _
    rw [dash]
    cases h : tl x with
    | nil => simp
    | cons c r => simp
  unfold fig Txt.removeprefix
  by_cases h : subAt x "-" 0 = true
  · obtain ⟨r, hr⟩ := e.mp h
    rw [if_pos h]
    have hl : x.length = r.length + 1 := by rw [hx, hr, List.length_cons]
    rw [show ("-" : Str).length = 1 from by decide +kernel]
    show tl (if (x.length - 1 == x.length) = true then x else strSub x 1 x.length) = _
    rw [if_neg (by rw [beq_iff_eq]; omega), tl_strSub_end, hr]
    simp [figL]
  · rw [if_neg h]
    unfold Txt.affix
    cases hr : tl x with
    | nil => rfl
    | cons c r =>
      have hc : c ≠ 45 := fun z => h (e.mpr ⟨r, by rw [hr, z]⟩)
      simp [figL, hc]
def isDig (c : Nat) : Bool := decide (48 ≤ c) && decide (c ≤ 57)
theorem dig128 : ∀ c : Nat, c < 128 → Unicode.isDigit c = isDig c := by decide +kernel
theorem alp128 : ∀ c : Nat, c < 128 → (Unicode.isAlpha c && !(Unicode.isUpper c || Unicode.isTitle c)) = (decide (97 ≤ c) && decide (c ≤ 122)) := by decide +kernel
theorem low128 : ∀ c : Nat, c < 128 → Unicode.isLower c = (decide (97 ≤ c) && decide (c ≤ 122)) := by decide +kernel
theorem all_tl {x : Str} {p : Nat → Bool} : x.cps.all p = (tl x).all p := by rw [← Array.all_toList] <;> rfl
theorem any_tl {x : Str} {p : Nat → Bool} : x.cps.any p = (tl x).any p := by rw [← Array.any_toList] <;> rfl
theorem pos_tl {x : Str} : (decide (x.length > 0)) = !(tl x).isEmpty := by
  rw [len_tl]
  cases tl x <;> simp
theorem digits_ok (f : Str) : (Txt.isascii f && Txt.isdigit f) = true ↔ tl f ≠ [] ∧ AllDigits (tl f) := by
  unfold Txt.isascii Txt.isdigit AllDigits
  rw [all_tl, all_tl, pos_tl]
  simp only [Bool.and_eq_true, List.all_eq_true, decide_eq_true_eq, Bool.not_eq_true', List.isEmpty_eq_false_iff]
  constructor
  · rintro ⟨h1, h2, h3⟩
    refine ⟨h2, fun c hc => ?_⟩
    have := h3 c hc
    rw [dig128 c (h1 c hc)] at this
    simpa [isDig] using this
  · rintro ⟨h1, h2⟩
    refine ⟨fun c hc => ?_, h1, fun c hc => ?_⟩
    · have := h2 c hc
      omega
    · have := h2 c hc
      rw [dig128 c (by omega)]
      simpa [isDig] using this
/-- a word of 1 to 12 letters -/
def nameL (l : List Nat) : Prop := l ≠ [] ∧ l.length ≤ 12 ∧ ∀ c ∈ l, 97 ≤ c ∧ c ≤ 122
theorem names_ok (z : Str) : (Txt.isascii z && (Txt.isalpha z && Txt.islower z)) = true ↔ tl z ≠ [] ∧ ∀ c ∈ tl z, 97 ≤ c ∧ c ≤ 122 := by
  unfold Txt.isascii Txt.isalpha Txt.islower
  rw [all_tl, all_tl, any_tl, any_tl, pos_tl]
  simp only [Bool.and_eq_true, List.all_eq_true, List.any_eq_true, decide_eq_true_eq, Bool.not_eq_true', List.isEmpty_eq_false_iff, List.any_eq_false]
  constructor
  · rintro ⟨h1, ⟨h2, h3⟩, _, h5⟩
    refine ⟨h2, fun c hc => ?_⟩
    have a1 := h3 c hc
    have a2 := h5 c hc
    have a3 := alp128 c (h1 c hc)
    rw [a1] at a3
    have a4 : (Unicode.isUpper c || Unicode.isTitle c) = false := by
      cases e : (Unicode.isUpper c || Unicode.isTitle c) with
      | false => rfl
      | true => exact absurd e a2
    rw [a4] at a3
    have a5 : (decide (97 ≤ c) && decide (c ≤ 122)) = true := a3.symm
    simpa using a5
  · rintro ⟨h1, h2⟩
    have key : ∀ c ∈ tl z, c < 128 ∧ (decide (97 ≤ c) && decide (c ≤ 122)) = true := fun c hc => by
      have := h2 c hc
      exact ⟨by omega, by simpa using this⟩
    refine ⟨fun c hc => (key c hc).1, ⟨h1, fun c hc => ?_⟩, ?_, fun c hc => ?_⟩
    · have a3 := alp128 c (key c hc).1
      rw [(key c hc).2] at a3
      exact (Bool.and_eq_true_iff.mp a3).1
    · obtain ⟨c, r, e⟩ := List.exists_cons_of_ne_nil h1
      have hc : c ∈ tl z := by rw [e]; exact List.mem_cons_self
      exact ⟨c, hc, by rw [low128 c (key c hc).1]; exact (key c hc).2⟩
    · have a3 := alp128 c (key c hc).1
      rw [(key c hc).2] at a3
      have a4 := (Bool.and_eq_true_iff.mp a3).2
      intro e
      rw [e] at a4
      cases a4
/-! ### numbers -/
theorem num_fold : ∀ (cs : List Nat) (a : Nat), 0 < a → AllDigits cs → numL (cs.foldl (fun acc c => acc * 10 + (c - 48)) a) = numL a ++ cs
  | [], a, _, _ => by rw [List.foldl_nil, List.append_nil]
  | c :: r, a, ha, h => by
    have hc := h.head
    rw [List.foldl_cons, num_fold r _ (by omega) h.tail, numL_step (by omega)]
    rw [show (a * 10 + (c - 48)) / 10 = a by omega, show 48 + (a * 10 + (c - 48)) % 10 = c by omega]
    rw [List.append_assoc]
    rfl
/-- figures without a 0 ahead of others -/
def canonL (l : List Nat) : Prop := l ≠ [] ∧ AllDigits l ∧ (l.head? = some 48 → l = [48])
theorem canon_num {l : List Nat} (h : canonL l) : numL (digitsVal l) = l := by
  obtain ⟨h1, h2, h3⟩ := h
  cases l with
  | nil => exact absurd rfl h1
  | cons c r =>
    have hc := h2.head
    by_cases z : c = 48
    · subst z
      have e := h3 rfl
      rw [e]
      decide +kernel
    · unfold digitsVal
      rw [List.foldl_cons, num_fold r _ (by omega) h2.tail, numL_lt (by omega)]
      rw [show 48 + (0 * 10 + (c - 48)) = c by omega]
      rfl
theorem canon_pos {l : List Nat} (h : canonL l) (hz : l ≠ [48]) : 0 < digitsVal l := by
  cases e : digitsVal l with
  | zero =>
    have z := canon_num h
    rw [e] at z
    exact absurd z.symm (by
      have : numL 0 = [48] := by decide +kernel
      rw [this]
      exact hz)
  | succ n => omega
theorem num_canon (n : Nat) : canonL (numL n) := by
  refine ⟨numL_ne n, numL_digits n, ?_⟩
  induction n using Nat.strongRecOn with
  | _ n ih =>
    by_cases h : n < 10
    · rw [numL_lt h]
      intro z
      simp only [List.head?_cons, Option.some.injEq] at z
      rw [z]
    · rw [numL_step (by omega)]
      intro z
      have hne := numL_ne (n / 10)
      obtain ⟨c, r, e⟩ := List.exists_cons_of_ne_nil hne
      rw [e] at z
      have z2 := ih (n / 10) (by omega) (by rw [e]; exact z)
      have z3 : n / 10 = 0 := numL_inj (z2.trans (by decide +kernel))
      omega
def strI (n : Int) : Str := Str.ofString (toString n)
theorem str_nat (n : Nat) : tl (strI (n : Int)) = numL n := tl_num n
theorem str_neg {n : Nat} (h : 0 < n) : tl (strI (-(n : Int))) = 45 :: numL n := by
  obtain ⟨m, rfl⟩ : ∃ m, n = m + 1 := ⟨n - 1, by omega⟩
  have e : toString (-((m + 1 : Nat) : Int)) = "-" ++ toString (((m + 1 : Nat) : Int)) := rfl
  unfold strI
  rw [e]
  have z : Str.ofString ("-" ++ toString (((m + 1 : Nat) : Int))) = ("-" : Str) ++ Str.ofString (toString (((m + 1 : Nat) : Int))) := by
    refine ext_tl ?_
    rw [tl_append]
    show (Str.ofString _).cps.toList = (Str.ofString _).cps.toList ++ (Str.ofString _).cps.toList
    rw [Str.ofString_eq_toList, Str.ofString_eq_toList, Str.ofString_eq_toList]
    simp [String.toList_append]
  rw [z, tl_append, dash, tl_num]
  rfl
theorem str_cases (n : Int) : (∃ m : Nat, n = (m : Int) ∧ tl (strI n) = numL m) ∨ ∃ m : Nat, 0 < m ∧ n = -(m : Int) ∧ tl (strI n) = 45 :: numL m := by
  by_cases h : 0 ≤ n
  · obtain ⟨m, rfl⟩ := Int.eq_ofNat_of_zero_le h
    exact .inl ⟨m, rfl, str_nat m⟩
  · obtain ⟨m, e⟩ := Int.eq_ofNat_of_zero_le (show 0 ≤ -n by omega)
    have hm : 0 < m := by omega
    have e2 : n = -(m : Int) := by omega
    subst e2
    exact .inr ⟨m, hm, rfl, str_neg hm⟩
/-- the word is a number as the document writes it -/
def numOk (w : Str) : Prop := canonL (figL (tl w)) ∧ (figL (tl w) = [48] → tl w = [48])
/-- its value -/
def numV (l : List Nat) : Int := match l with
  | [] => 0
  | c :: r => if c = 45 then -((digitsVal r : Nat) : Int) else ((digitsVal (c :: r) : Nat) : Int)
theorem num_word {w : Str} (h : numOk w) : (canonL (tl w) ∧ figL (tl w) = tl w ∧ numV (tl w) = ((digitsVal (tl w) : Nat) : Int)) ∨
    ∃ r, tl w = 45 :: r ∧ canonL r ∧ r ≠ [48] ∧ figL (tl w) = r ∧ numV (tl w) = -((digitsVal r : Nat) : Int) := by
  obtain ⟨h1, h2⟩ := h
  cases e : tl w with
  | nil =>
    rw [e] at h1
    exact absurd rfl h1.1
  | cons c r =>
    rw [e] at h1 h2
    by_cases hc : c = 45
    · subst hc
      have ef : figL (45 :: r) = r := by simp [figL]
      rw [ef] at h1 h2
      refine .inr ⟨r, rfl, h1, fun z => ?_, ef, by simp [numV]⟩
      have := h2 z
      cases this
    · have ef : figL (c :: r) = c :: r := by simp [figL, hc]
      rw [ef] at h1
      exact .inl ⟨h1, ef, by simp [numV, hc]⟩
theorem num_int {w : Str} (h : numOk w) (hl : w.length ≤ 4300) : intText? w = some (numV (tl w)) := by
  rcases num_word h with ⟨h1, _, e⟩ | ⟨r, hr, h1, _, _, e⟩
  · rw [e]
    exact intText_digits h1.2.1 h1.1 hl
  · rw [e]
    exact intText_neg hr h1.2.1 h1.1 hl
theorem num_back {w : Str} (h : numOk w) : w = strI (numV (tl w)) := by
  refine ext_tl ?_
  rcases num_word h with ⟨h1, _, e⟩ | ⟨r, hr, h1, hz, _, e⟩
  · rw [e, str_nat, canon_num h1]
  · rw [e, str_neg (canon_pos h1 hz), canon_num h1, hr]
theorem num_str (n : Int) : numOk (strI n) ∧ numV (tl (strI n)) = n := by
  rcases str_cases n with ⟨m, rfl, e⟩ | ⟨m, hm, rfl, e⟩
  · have c := num_canon m
    have z : ∃ a r, numL m = a :: r ∧ a ≠ 45 := by
      obtain ⟨a, r, q⟩ := List.exists_cons_of_ne_nil c.1
      refine ⟨a, r, q, ?_⟩
      have := c.2.1 a (by rw [q]; exact List.mem_cons_self)
      omega
    obtain ⟨a, r, q, ha⟩ := z
    have ef : figL (numL m) = numL m := by rw [q]; simp [figL, ha]
    refine ⟨⟨by rw [e, ef]; exact c, fun z => by rw [e, ef] at z; rw [e]; exact z⟩, ?_⟩
    have v := numL_val m
    rw [e]
    rw [q] at v ⊢
    simp only [numV, ha, if_false]
    rw [v]
  · have c := num_canon m
    have ef : figL (45 :: numL m) = numL m := by simp [figL]
    refine ⟨⟨by rw [e, ef]; exact c, fun z => ?_⟩, ?_⟩
    · rw [e, ef] at z
      have : m = 0 := numL_inj (z.trans (by decide +kernel))
      omega
    · rw [e]
      simp only [numV, if_true]
      rw [numL_val]
theorem fig_str (n : Int) : (figL (tl (strI n))).length = (numL n.natAbs).length := by
  rcases str_cases n with ⟨m, rfl, e⟩ | ⟨m, hm, rfl, e⟩
  · obtain ⟨a, r, q⟩ := List.exists_cons_of_ne_nil (numL_ne m)
    have ha : a ≠ 45 := by
      have := numL_digits m a (by rw [q]; exact List.mem_cons_self)
      omega
    rw [e, show (m : Int).natAbs = m from rfl, q]
    simp [figL, ha]
  · rw [e, show (-(m : Int)).natAbs = m by omega]
    simp [figL]
theorem len_str (n : Int) : (strI n).length ≤ (numL n.natAbs).length + 1 := by
  rw [len_tl]
  rcases str_cases n with ⟨m, rfl, e⟩ | ⟨m, hm, rfl, e⟩
  · rw [e, show (m : Int).natAbs = m from rfl]
    omega
  · rw [e, show (-(m : Int)).natAbs = m by omega, List.length_cons]
    omega
theorem strI_inj {m n : Int} (h : strI m = strI n) : m = n := by
  rw [← (num_str m).2, ← (num_str n).2, h]
theorem free_str (n : Int) : 32 ∉ tl (strI n) := by
  rcases str_cases n with ⟨m, rfl, e⟩ | ⟨m, hm, rfl, e⟩
  · rw [e]
    exact numL_free (by omega)
  · rw [e]
    intro h
    rcases List.mem_cons.mp h with h | h
    · cases h
    · exact numL_free (by omega) h
end Wt
end
section
set_option Elab.async false
set_option linter.all false
set_option maxRecDepth 100000
set_option maxHeartbeats 4000000
/-! Entries in texts. -/
namespace Wt
open PySem TL NumText Builtin.Str PySem.StrLaws
theorem blank : tl (" " : Str) = [32] := by decide +kernel
theorem blank_k : (" " : Str).cps.all (· < 256) = true := by decide +kernel
theorem spl_ne : ∀ (l acc : List Nat), spl [32] 0 acc l ≠ []
  | [], acc => by rw [spl_nil]; simp
  | c :: r, acc => by
    by_cases h : pre [32] (c :: r) = true
    · rw [spl_hit h]
      simp
    · rw [spl_miss (by simpa using h)]
      exact spl_ne r _
theorem joinL_cons (S p : List Nat) {q : List (List Nat)} (h : q ≠ []) : joinL S (p :: q) = p ++ (S ++ joinL S q) := by
  obtain ⟨a, r, rfl⟩ := List.exists_cons_of_ne_nil h
  rfl
theorem join_spl : ∀ (l acc : List Nat), joinL [32] (spl [32] 0 acc l) = acc ++ l
  | [], acc => by rw [spl_nil, List.append_nil]; rfl
  | c :: r, acc => by
    by_cases h : pre [32] (c :: r) = true
    · rw [spl_hit h]
      have hc : c = 32 := by
        unfold pre at h
        simpa using h
      show joinL [32] (acc :: spl [32] 0 [] r) = _
      rw [joinL_cons _ _ (spl_ne r []), join_spl r []]
      simp [hc]
    · rw [spl_miss (by simpa using h), join_spl r _, List.append_assoc]
      rfl
def words (z : Str) : List Str := Txt.split z " "
theorem words_tl (z : Str) : (words z).map tl = spl [32] 0 [] (tl z) := by
  have e := split_spl z " " (by rw [blank]; simp) (kind_ok blank_k)
  rw [blank] at e
  exact e
theorem words_ne (z : Str) : words z ≠ [] := fun h => by
  have e := words_tl z
  rw [h] at e
  exact spl_ne _ _ e.symm
theorem words_join (z : Str) : Txt.join " " (words z) = z := by
  refine ext_tl ?_
  rw [join_eq, tl_join, blank, words_tl, join_spl, List.nil_append]
theorem joinL_len (S : List Nat) : ∀ l : List (List Nat), ∀ p ∈ l, p.length ≤ (joinL S l).length
  | [], p, h => by cases h
  | [a], p, h => by
    rw [List.mem_singleton.mp h]
    exact Nat.le_refl _
  | a :: b :: r, p, h => by
    rw [joinL_cons S a (by simp), List.length_append, List.length_append]
    rcases List.mem_cons.mp h with rfl | h
    · omega
    · have := joinL_len S (b :: r) p h
      omega
theorem words_len {z w : Str} (h : w ∈ words z) : w.length ≤ z.length := by
  have e := congrArg tl (words_join z)
  rw [join_eq, tl_join] at e
  have := joinL_len (tl " ") _ (tl w) (List.mem_map.mpr ⟨w, h, rfl⟩)
  rw [e] at this
  rw [len_tl w, len_tl z]
  exact this
theorem spl_count : ∀ (l acc : List Nat), (spl [32] 0 acc l).length ≤ l.length + 1
  | [], acc => by rw [spl_nil]; simp
  | c :: r, acc => by
    by_cases h : pre [32] (c :: r) = true
    · rw [spl_hit h]
      have := spl_count r []
      show (acc :: spl [32] 0 [] r).length ≤ _
      rw [List.length_cons, List.length_cons]
      omega
    · rw [spl_miss (by simpa using h)]
      have := spl_count r (acc ++ [c])
      rw [List.length_cons]
      omega
theorem words_count (z : Str) : (words z).length ≤ z.length + 1 := by
  have := spl_count (tl z) []
  rw [← words_tl, List.length_map, ← len_tl] at this
  exact this
def KS : List Str := ["day", "float", "zoned", "fixed"]
def fitsN (dg : Option Nat) (n : Int) : Prop := ∀ d, dg = some d → (numL n.natAbs).length ≤ d
/-- the words of an entry -/
structure RdW (dg : Option Nat) (ws : List Str) (k : Str) (a b : Int) (o : Option Str) : Prop where
  sp : ws = [k, strI a, "to", strI b] ++ o.toList
  kin : k ∈ KS
  zo : o.isSome = true ↔ k = "zoned"
  fa : fitsN dg a
  fb : fitsN dg b
  le : a ≤ b
  nm : ∀ n, o = some n → nameL (tl n)
def mkT (k : Str) (a b : Int) (o : Option Str) : Str := Txt.join " " ([k, strI a, "to", strI b] ++ o.toList)
theorem RdW.text {dg : Option Nat} {z k : Str} {a b : Int} {o : Option Str} (h : RdW dg (words z) k a b o) : z = mkT k a b o := by
  rw [← words_join z, h.sp]
  rfl
theorem ks_free {k : Str} (h : k ∈ KS) : 32 ∉ tl k := by
  have : ∀ x ∈ KS, 32 ∉ tl x := by decide +kernel
  exact this k h
theorem to_free : 32 ∉ tl ("to" : Str) := by decide +kernel
theorem mk_words {k : Str} {a b : Int} {o : Option Str} (hk : k ∈ KS) (hn : ∀ n, o = some n → nameL (tl n)) : words (mkT k a b o) = [k, strI a, "to", strI b] ++ o.toList := by
  refine split_join blank blank_k (by simp) fun p hp => ?_
  rcases List.mem_append.mp hp with hp | hp
  · simp only [List.mem_cons, List.not_mem_nil, or_false] at hp
    rcases hp with rfl | rfl | rfl | rfl
    · exact ks_free hk
    · exact free_str a
    · exact to_free
    · exact free_str b
  · cases o with
    | none => cases hp
    | some n =>
      have e : p = n := by simpa using hp
      subst e
      intro z
      have := (hn p rfl).2.2 32 z
      omega
theorem mk_reads {dg : Option Nat} {k : Str} {a b : Int} {o : Option Str} (hk : k ∈ KS) (hz : o.isSome = true ↔ k = "zoned") (ha : fitsN dg a) (hb : fitsN dg b) (hl : a ≤ b) (hn : ∀ n, o = some n → nameL (tl n)) :
    RdW dg (words (mkT k a b o)) k a b o := ⟨mk_words hk hn, hk, hz, ha, hb, hl, hn⟩
theorem RdW.uniq {dg dg' : Option Nat} {ws : List Str} {k k' : Str} {a a' b b' : Int} {o o' : Option Str} (h : RdW dg ws k a b o) (h' : RdW dg' ws k' a' b' o') : k = k' ∧ a = a' ∧ b = b' ∧ o = o' := by
  have e := h.sp.symm.trans h'.sp
  simp only [List.cons_append, List.nil_append, List.cons.injEq, true_and] at e
  obtain ⟨e1, e2, e3, e4⟩ := e
  refine ⟨e1, strI_inj e2, strI_inj e3, ?_⟩
  cases o <;> cases o' <;> simp_all
theorem mk_inj {k k' : Str} {a a' b b' : Int} {o o' : Option Str} (hk : k ∈ KS) (hn : ∀ n, o = some n → nameL (tl n)) (hk' : k' ∈ KS) (hn' : ∀ n, o' = some n → nameL (tl n)) (e : mkT k a b o = mkT k' a' b' o') :
    k = k' ∧ a = a' ∧ b = b' ∧ o = o' := by
  have h := congrArg words e
  rw [mk_words hk hn, mk_words hk' hn'] at h
  simp only [List.cons_append, List.nil_append, List.cons.injEq, true_and] at h
  obtain ⟨e1, e2, e3, e4⟩ := h
  refine ⟨e1, strI_inj e2, strI_inj e3, ?_⟩
  cases o <;> cases o' <;> simp_all
def fits (dg : Option Nat) (w : Str) : Prop := ∀ d, dg = some d → (figL (tl w)).length ≤ d
open Classical in
/-- what a word tells -/
noncomputable def numR (dg : Option Nat) (w : Str) : Option Int := if numOk w ∧ fits dg w then some (numV (tl w)) else none
theorem numR_some {dg : Option Nat} {w : Str} {n : Int} (h : numR dg w = some n) : w = strI n ∧ fitsN dg n := by
  unfold numR at h
  split at h
  · rename_i q
    have e := Option.some.inj h
    have b := num_back q.1
    rw [e] at b
    refine ⟨b, fun d hd => ?_⟩
    have := q.2 d hd
    rw [b, fig_str] at this
    exact this
  · cases h
theorem numR_str {dg : Option Nat} {n : Int} (h : fitsN dg n) : numR dg (strI n) = some n := by
  obtain ⟨h1, h2⟩ := num_str n
  unfold numR
  rw [if_pos ⟨h1, fun d hd => by rw [fig_str]; exact h d hd⟩, h2]
end Wt
end
section
set_option Elab.async false
set_option linter.all false
set_option maxRecDepth 100000
set_option maxHeartbeats 1000000
namespace Wd
open PySem PySem.Spec PyProof.Rows L2 Wt TL NumText
/-- what the law of pieces looks up, whichever def reads it -/
structure Tx (K : PySem.W.Frag) (mg : Str → Option Value) : Prop extends TxtP mg where
  str : mg "str" = none
  isinstance : mg "isinstance" = none
  range : mg "range" = none
  bool : mg "bool" = none
  enumerate : mg "enumerate" = none
  tuple : mg "tuple" = none
  any : mg "any" = none
  all : mg "all" = none
  sorted : mg "sorted" = none
  MEMBERS : mg "MEMBERS" = some (.ref (He.ga K "MEMBERS"))
  MC : ∃ t, mg "MOST_COMPARED" = some (.int 10000 t)
  Days : mg "Days" = some (.ref (He.ga K "Days"))
  cl : Cls K (He.ga K "Days")
  n1 : NoAttr K (He.ga K "Days") "pieces"
  n2 : NoAttr K (He.ga K "Days") "_ones"
  n3 : NoAttr K (He.ga K "Days") "_ups"
  n4 : NoAttr K (He.ga K "Days") "_downs"
  n5 : NoAttr K (He.ga K "Days") "_everys"
  n6 : NoAttr K (He.ga K "Days") "_steps"
end Wd
end
section
set_option Elab.async false
set_option linter.all false
set_option maxRecDepth 100000
set_option maxHeartbeats 2000000
set_option pp.maxSteps 600
/-! ### d.get(k) of a known dict; C.m(..), m a static method -/
namespace Wd
open PySem PySem.Spec PyProof.Rows L2 ClX
/-- what a known dict holds at a text -/
def KGet (K : PySem.W.Frag) (w : World) (a : Addr) (x : Str) (o : Option V) : Prop :=
  ∃ es n u, K.lookup a = some ⟨.type "dict", none, .dict es n, #[]⟩ ∧ PySem.W.KeysLit w.params es.toList ∧ (a == sysModules) = false ∧ PySem.W.nsIn K a x = some u ∧ RelO o u
def KDic (K : PySem.W.Frag) (w : World) (a : Addr) : Prop := ∃ es n, K.lookup a = some ⟨.type "dict", none, .dict es n, #[]⟩ ∧ PySem.W.KeysLit w.params es.toList ∧ (a == sysModules) = false
def tKGet (K : PySem.W.Frag) (w : World) (td ty : TE) : TE := fun σ H Q => td σ H fun x H1 => ∃ a, x = .ref a ∧ KDic K w a ∧ ty σ H1 fun y H2 => ∃ z o, y = .str z ∧ KGet K w a z o ∧ Q (o.getD .non) H2
section
variable {X : Cx} {o e : Expr} {apos cpos : Pos} {td ty : TE}
theorem pe_kget (ho : PE X o td) (he : PE X e ty) (m : M1 X o "get" apos e cpos) : PE X (.Call (.Attribute o "get" apos) [e] [] cpos) (tKGet X.K X.w td ty) := by
  refine ⟨fun pins s σ H Q I h => ?_⟩
  refine wpAny_Call_method m.base m.few m.line PySem.F.plainAttrs_dict PySem.F.slot_dict_get PySem.F.type_dict_get (thn (ho.run pins s σ H _ I h) fun u s1 ⟨x, H1, I1, rx, a, ex, ⟨es, n, hl, hk, low⟩, q1⟩ => ?_)
  subst ex
  obtain rfl : u = Value.ref a := rx
  have hm := PySem.W.mapOf_K (prog := X.prog) (w := X.w) I1.kIn hl hk
  refine ⟨hm.typeIs, fun b q => ?_, ?_⟩
  · cases q
    exact ⟨_, I1.kIn _ _ hl, rfl⟩
  rw [m.trees]
  refine Calls.callWith_builtin rfl (Calls.evalArgs_plain (Calls.spliced_cons (thn (he.run pins s1 σ H1 _ I1 q1) fun iv s2 ⟨y, H2, I2, ry, z, ov, ey, ⟨es2, n2, u2, hl2, hk2, low2, hn2, r2⟩, q2⟩ => Calls.spliced_nil ?_)))
  subst ey
  obtain ⟨t, rfl⟩ := (show ∃ t, iv = Value.str z t from ry)
  have hm2 := PySem.W.mapOf_K (prog := X.prog) (w := X.w) I2.kIn hl2 hk2
  refine call_meetsIn PySem.F.slot_dict_get hm2.typeIs PySem.F.entry_dict_get (PySem.F.args_dict_get_2 _ _) (meets_dict_get _ a (strKind_is X.prog X.w z t) low2) ⟨_, hm2, ?_⟩
  rw [PySem.W.find_K hl2 hn2]
  exact ⟨ov.getD .non, H2, I2.tok _, r2.getD (show L2.RelV V.non Value.none from rfl), q2⟩
end
/-- C.m is a static method: its record at p, its def at g -/
structure SMet (K : PySem.W.Frag) (C : Addr) (mc : Value) (m : Str) (p g : Addr) : Prop where
  at_ : PySem.W.findCls K (.ref C) mc m = some (.get (.builtin "staticmethod.__get__") (.ref p) .none (.ref C))
  rc : ∃ rest, PySem.W.recIn K p "staticmethod" = some (.ref g :: rest)
/-- C.m(e, ..) -/
def tSMeth (C : Addr) (sp : Sp) (E : XK) (ta : TE) (t : TA) : TE := fun σ H Q => ta σ H fun x H1 => x = .ref C ∧ t σ H1 fun vs H2 => sp vs H2 Q E
section
variable {X : Cx} {CX : CXT} {k : Nat} {C p g : Addr} {mc : Value} {sp : Sp} {E : XK} {o e : Expr} {es : List Expr} {m : Str} {pos apos : Pos} {ta : TE} {t : TA} {pl : Sem Bool} {fd : FuncData} {ps : List Str}
theorem pe_smeth (he : PE X o ta) (r : CRead X.K C mc) (c : SMet X.K C mc m p g) (F : FnOk X.prog X.w X.K X.mg X.base CX k g fd ps sp) (hk : PySem.W.keepIn X.K (.ref g) = true) (hb : Binds X.K fd ps []) (hr : Room k X.A) (hx : Passes CX X E) (ha : PA X (e :: es) t)
    (hst : starEach (e :: es) X.env = (false, eval e X.env) :: starEach es X.env := by rfl) (hpl : (backTo pos (starEach es X.env)).any (·.1) = false := by rfl)
    (ht : eval (.Call (.Attribute o m apos) (e :: es) [] pos) X.env = (do
      let ov ← eval o X.env
      standAt apos.atName
      let (f, first) ← holding [ov] (getMethod ov m pl)
      callWith pos f first (backTo pos (starEach (e :: es) X.env)) (backToKw pos (keywordEach [] X.env))) := by rfl) :
    PE X (.Call (.Attribute o m apos) (e :: es) [] pos) (tSMeth C sp E ta t) := by
  refine ⟨fun pins s σ H Q I h => ?_⟩
  refine PySem.W.methodCall_KW (pl := pl) (thn (he.run pins s σ H _ I h) fun u s1 ⟨x, H1, I1, rx, ex, q⟩ => ?_) ht
  subst ex
  obtain rfl : u = Value.ref C := rx
  obtain ⟨rest, hp⟩ := c.rc
  refine PySem.W.method_cls I1.kIn r.ga (PySem.W.cls_bind I1.kIn r.rd c.at_ (wpAny_call (PySem.W.sm_get (s := { s1 with toks := s1.toks + 1 }) I1.kIn hp (PySem.W.handed_on rfl ?_))))
  have I2 : Inv X pins σ H1 { s1 with toks := s1.toks + 1 } := I1.tok _
  refine PySem.W.callWith_K (h₀ := X.base) I2.ok.mod.kin hk (thn (ha.run pos pins _ σ H1 _ I2 q) fun us s3 ⟨vs, H2, I3, rv, q2⟩ => ⟨I3.kIn, ?_⟩) hst hpl
  exact run_fn (dvs := []) (ds := []) F hr hb .nil hx I3 rv (by rw [List.append_nil]; exact q2)
end
end Wd
end
section
set_option Elab.async false
set_option linter.all false
set_option maxRecDepth 100000
set_option maxHeartbeats 1000000
set_option pp.maxSteps 600
/-! A dict comprehension that a name of the def takes; the walk of a dict comprehension in the walks' words. -/
namespace Wd
open PySem PySem.Spec PyProof.Rows L2
section
variable {X : Cx}
theorem swD_true {kx vx : Expr} {gs : List Comprehension} {scope : Scope} {pos py : Pos} {y : Str} {l : Nat} {env : Env} (hk : env.scope.kind = .function) (hy : env.scope.names.lookup y = some .local) (hl : (py.line == pos.line) = true)
    (ha : (scope.names.any fun (n, k) => n == y && (k == .local || k == .cell)) = false) : swapsWith (.DictComp kx vx gs scope pos) (some (.Name y py)) l env = pure true := by
  have ky : env.kindOf y = some .local := hy
  have hb : env.blockKind = .function := by unfold Env.blockKind; rw [hk]; rfl
  unfold swapsWith
  simp only [hb, ky, ha, Expr.pos, hl]
  rfl
theorem ps_setDc {i : Nat} {y : Str} {py : Pos} {kx vx tg iter : Expr} {ifs : List Expr} {scope : Scope} {own : List (Str × Nat)} {pos spos : Pos} {wi : TI} {g : TG} {tt : TT} {tk tv : TE} (hc : X.calm = true) (hN : X.N.Nodup) (hy : X.N[i]? = some y) (hyl : X.env.scope.names.lookup y = some .local)
    (hsw : swapsWith (.DictComp kx vx [⟨tg, iter, ifs, 0⟩] scope pos) (some (.Name y py)) spos.line X.env = pure true) (hi : PI X tg iter wi) (ok : BlkOk X.N X.env.scope scope own)
    (hg : ∀ (s : Shared) (H : Hp) (C : Addr) (cl : List (Str × Addr)) (fp : List Addr), PG (X.blk s H scope (compEnvC scope cl C X.env) fp) tg g) (ht : ∀ (s : Shared) (H : Hp) (C : Addr) (cl : List (Str × Addr)) (fp : List Addr), PTs (X.blk s H scope (compEnvC scope cl C X.env) fp) ifs tt)
    (hk : ∀ (s : Shared) (H : Hp) (C : Addr) (cl : List (Str × Addr)) (fp : List Addr), PE (X.blk s H scope (compEnvC scope cl C X.env) fp) kx tk)
    (he : ∀ (s : Shared) (H : Hp) (C : Addr) (cl : List (Str × Addr)) (fp : List Addr), PE (X.blk s H scope (compEnvC scope cl C X.env) fp) vx tv) (hs : ∀ x, foldedSetIterable iter X.env x = pure x := by intro _; rfl) :
    PS X (.Assign [.Name y py] (.DictComp kx vx [⟨tg, iter, ifs, 0⟩] scope pos) spos) (tAsg (tDc wi g tt tk tv (own.map (·.2))) (gName i)) := by
  refine ⟨fun pins s σ H D I h => ?_⟩
  rw [exec_Assign_Name_used _ _ _ _ hsw]
  refine wpAny_bind (wpAny_standAt (wpAny_bind ?_))
  show wpAny _ X.A (do let _ ← comprehension (.DictComp kx vx [⟨tg, iter, ifs, 0⟩] scope pos) scope X.env (firstIterPos [⟨tg, iter, ifs, 0⟩] pos) newDict false (eval iter X.env) (some (assign (.Name y py) X.env))) _ _ s
  have h : tDc wi g tt tk tv (own.map (·.2)) σ H (fun x H1 => gName i x σ H1 D.nx) := h
  refine wpAny_bind (thn (dc_core (Qf := fun _ s' => SP X pins D .next s') hc hN I hi ok hg ht hk he hs h fun L C s' m H' I' q hn f => ?_) fun _ s' hq => wpAny_pure (wpAny_pure hq))
  show wpAny _ _ (assign (.Name y py) X.env (.ref L)) _ _ _
  refine wpAny_assign_Name (store_ok2 (v := V.ref L) I' hN hy (.inl hyl) rfl (fun s2 I2 ⟨a, sb, ha⟩ => ?_) (.inr hyl))
  obtain ⟨f0, f1, f2, f3, f4, f5⟩ := f
  have haC : C ≠ a := by
    rcases ha with z | z
    · rw [z]; exact f1
    · exact fun e => f4 y a z e.symm
  refine ⟨m, hn.sameBut sb haC, fun h3 sb3 => ?_⟩
  exact ⟨_, H', I2.turned (t' := s2.toks) (fun b o hb e => (sb3.2 b hb).trans e) f0 f1 f3 f4 f5, q⟩
end
theorem nd_idx {α : Type} : ∀ {xs : List α} {i j : Nat} {x : α}, xs.Nodup → xs[i]? = some x → xs[j]? = some x → i = j
  | [], i, _, _, _, h, _ => by simp at h
  | y :: ys, 0, 0, _, _, _, _ => rfl
  | y :: ys, 0, j + 1, x, nd, h, h2 => by
    simp at h
    subst h
    rw [List.getElem?_cons_succ] at h2
    exact absurd (List.mem_of_getElem? h2) (List.nodup_cons.mp nd).1
  | y :: ys, i + 1, 0, x, nd, h, h2 => by
    simp at h2
    subst h2
    rw [List.getElem?_cons_succ] at h
    exact absurd (List.mem_of_getElem? h) (List.nodup_cons.mp nd).1
  | y :: ys, i + 1, j + 1, x, nd, h, h2 => by
    rw [List.getElem?_cons_succ] at h h2
    rw [nd_idx (List.nodup_cons.mp nd).2 h h2]
theorem nd_get {α : Type} {xs : List α} (nd : xs.Nodup) {i j : Nat} {hi : i < xs.length} {hj : j < xs.length} (e : xs[i] = xs[j]) : i = j :=
  nd_idx nd (List.getElem?_eq_getElem hi) (by rw [e]; exact List.getElem?_eq_getElem hj)
/-- tuple(xs), xs a list or a tuple -/
def rTupOf (K : PySem.W.Frag) : List V → Hp → VK → Prop := fun xs H Q => ∃ p ys, xs = [.ref p] ∧ ((SqL K H p ys ∧ ∀ l, H l = none → Q (.ref l) (upd H l (.tup ys))) ∨ (SqT K H p ys ∧ Q (.ref p) H))
theorem call_tuple_ofR {X : Cx} : CallR X (.type "tuple") (rTupOf X.K) := call_tuple_of
section
variable {J : It} {n : Nat} {G : Hp → Prop} {Y : Nat → Hp → V → Hp → Prop}
theorem dc_it (w : Walk J n G Y) {g : TG} {tt : TT} {tk tv : TE} {vs : List Nat} {σ : L2.St} {H1 : Hp} {D : Addr} {Qd : Hp → Prop} (Pv : Nat → Hp → Prop) (h0 : Pv 0 (upd H1 D (.dK []))) (hG : ∀ i H, i ≤ n → Pv i H → G H)
    (hs : ∀ i x H H', i < n → Pv i H → Y i H x H' → g x (wipe σ vs) H' fun σ2 H2 => wipe σ2 vs = wipe σ vs ∧ tt σ2 H2 fun b H3 =>
      if b = true then tk σ2 H3 fun y H4 => tv σ2 H4 fun z H5 => ∃ kvs k, y = kV k ∧ H5 D = some (.dK kvs) ∧ kvs.length < sizeLine ∧ Pv (i + 1) (upd H5 D (.dK (putK kvs k z))) else Pv (i + 1) H3) (hd : ∀ H, Pv n H → Qd H) :
    ∃ W : Nat → Nat → Hp → Prop, (∃ m, W 0 m (upd H1 D (.dK []))) ∧ ∀ i m H, W i m H →
      (J.stop i H ∧ Qd H) ∨ (J.go i H ∧ ∃ Nx : Hp → Prop, (∀ H', Nx H' → ∃ m', m' < m ∧ W (i + 1) m' H') ∧ ∀ x H', J.yld i H x H' → g x (wipe σ vs) H' fun σ2 H2 => wipe σ2 vs = wipe σ vs ∧ tt σ2 H2 fun b H3 =>
        if b = true then tk σ2 H3 fun y H4 => tv σ2 H4 fun z H5 => ∃ kvs k, y = kV k ∧ H5 D = some (.dK kvs) ∧ kvs.length < sizeLine ∧ Nx (upd H5 D (.dK (putK kvs k z))) else Nx H3) := by
  refine ⟨fun i m H => m = n - i ∧ i ≤ n ∧ Pv i H, ⟨n, by simp, Nat.zero_le _, h0⟩, ?_⟩
  rintro i m H ⟨rfl, hi, p⟩
  have q := hG i H hi p
  by_cases hlt : i < n
  · refine .inr ⟨w.goes i H hlt q, Pv (i + 1), fun H' p' => ⟨n - (i + 1), by omega, rfl, hlt, p'⟩, fun x H' y => hs i x H H' hlt p (w.yields i H x H' hlt q y)⟩
  · have e : i = n := by omega
    subst e
    exact .inl ⟨w.stops H q, hd H p⟩
end
end Wd
end
section
set_option Elab.async false
set_option linter.all false
set_option maxRecDepth 100000
set_option maxHeartbeats 1000000
set_option pp.maxSteps 600
/-! A dict written with one entry whose key is a tuple in which None may stand. -/
namespace Wd
open PySem PySem.Spec PyProof.Rows L2
section
variable {prog : Program} {w : World} {K : Type} [DecidableEq K] {knd : HeapKind prog w K} {A : Around} {E : Value → Shared → Prop} {s : Shared} {env : Env}
theorem wpAny_Dict_walkO {keys : List (Option Expr)} {values : List Expr} {pos : Pos} {Q : Value → Shared → Prop} (hu : knd.room A)
    (hall : keys.all (·.isSome) = true) (hl : keys.length = values.length) (h0 : keys ≠ []) (hlen : keys.length ≤ 15)
    (h : wpAny (model prog w) A (evalPairs (pairTrees keys values env pos)) (fun vs s₁ => ∃ ps, CarriesH knd s₁.heap vs ps ∧ s₁.heap.DictOfH knd s.heap.objs.size [] ∧
      ∀ h' tk, h'.DictOfH knd s.heap.objs.size (storedAllH [] ps) → Heap.SameBut s.heap.objs.size s₁.heap h' → Q (.ref s.heap.objs.size) { s₁ with heap := h', toks := tk }) E
      { s with heap := s.heap.push { cls := .type "dict", data := .dict #[] } }) :
    wpAny (model prog w) A (eval (.Dict keys values pos) env) Q E s := by
  have hn := pairTrees_length keys values env pos hall hl
  have hne : pairTrees keys values env pos ≠ [] := by
    intro he
    rw [he] at hn
    exact h0 (List.length_eq_zero_iff.mp hn.symm)
  rw [arm_eval_Dict, zip_pairTrees keys values env pos hall hl, dictDisplay_pairs _ hne (by rw [hn]; omega)]
  exact wpAny_bind (wpAny_standAt (wpAny_bind (wpAny_subDictH (knd := knd) (Q := fun d s' => wpAny (model prog w) A (pure (Value.ref d)) Q E s') hu (by rw [hn]; exact hlen)
    (wpAny_mono h (fun vs s₁ h₁ => by obtain ⟨ps, hc, hm, hq⟩ := h₁; exact ⟨ps, hc, hm, fun h' tk a b => wpAny_pure (hq h' tk a b)⟩) fun _ _ e => e))))
end
section
variable {X : Cx} {k v : Expr} {tk tv : TE} {pos : Pos}
/-- {k: v}, k a tuple of texts, numbers, None; the new dict stands empty while the pair is made -/
def tDisp1O (P : Program) (w : World) (tk tv : TE) : TE := fun σ H Q => ∀ p, H p = none → tPairs [(tk, tv)] σ (upd H p (odO P w p [])) fun ps H3 => H3 p = some (odO P w p []) ∧ ∃ b ks z, ps = [(.ref b, z)] ∧ H3 b = some (.tup (ks.map oKV)) ∧ Q (.ref p) (upd H3 p (odO P w p [(ks, b, z)]))
theorem pe_disp1O (hu : X.A.units + 1 < cLine) (hk : PE X k tk) (hv : PE X v tv) : PE X (.Dict [some k] [v] pos) (tDisp1O X.prog X.w tk tv) := by
  refine ⟨fun pins s σ H Q I q => ?_⟩
  have hn := I.hok.fresh (Nat.le_refl s.heap.objs.size)
  have hsys : (s.heap.objs.size == sysModules) = false := beq_eq_false_iff_ne.mpr (Ne.symm (Nat.ne_of_lt I.big))
  have I1 := I.laid (a := s.heap.objs.size) (o := odO X.prog X.w s.heap.objs.size []) (h' := s.heap.push { cls := .type "dict", data := .dict #[] }) (t' := s.toks) (fun _ _ q => Heap.get?_push_of_some _ q) (Nat.le_refl _)
    (od_ok ⟨hsys, Nat.zero_le _, [], .nil, _, #[], 0, Heap.get?_push_size _ rfl, ⟨rfl, rfl, rfl⟩, rfl, rfl, List.nodup_nil⟩)
  refine wpAny_Dict_walkO (knd := tupleKind (noneKind X.prog X.w)) (show X.A.units < cLine by omega) rfl rfl (by simp) (by simp) (thn ((pps_cons hk hv pps_nil).run pins _ σ _ _ I1 (q _ hn)) fun ws s2 ⟨ps, H2, I2, rel, e, b, ks, z, ep, hb, q2⟩ => ?_)
  subst ep
  cases rel with
  | @cons p1 w1 ps1 ws1 h1 t1 =>
  cases t1
  obtain ⟨k1, v1⟩ := w1
  obtain ⟨e1, e2⟩ := h1
  obtain rfl : k1 = Value.ref b := e1
  have d0 : OD X.prog X.w H2 s.heap.objs.size [] := ⟨e, fun x hx => by cases hx⟩
  obtain ⟨_, _, xs, rel0, dd0⟩ := d0.of I2.hok
  cases rel0
  refine ⟨[(ks, b, v1)], ⟨rfl, rfl, oKey_of I2.hok hb, trivial⟩, dd0, fun h' tk dd' hs' => ⟨.ref s.heap.objs.size, _, d_write (t' := tk) I2 (by rw [e]; exact True.intro) hs' ?_ (od_ok ?_), rfl, q2⟩⟩
  · obtain ⟨o, _, _, ho, _⟩ := dd'
    exact ⟨o, ho⟩
  · obtain ⟨o, es, ep, ho, h2, h3, h4, _, h5⟩ := dd'
    have e0 : storedAllH [] [(ks, b, v1)] = [(ks, b, v1)] := by
      show storedH [] ks b v1 = _
      rw [storedH_new rfl]
      rfl
    rw [e0] at h4 h5
    exact ⟨hsys, by show 1 ≤ sizeLine; decide, _, .cons ⟨rfl, rfl, e2⟩ .nil, o, es, ep, ho, h2, h3, h4, h5⟩
/-- the same, the program and the world told -/
theorem pe_disp1OP {P : Program} {w : World} (hp : X.prog = P) (hw : X.w = w) (hu : X.A.units + 1 < cLine) (hk : PE X k tk) (hv : PE X v tv) : PE X (.Dict [some k] [v] pos) (tDisp1O P w tk tv) := by
  subst hp hw
  exact pe_disp1O hu hk hv
end
section
variable {X : Cx} {o i value : Expr} {td ty tv : TE} {pos pos' : Pos} {P : Program} {w : World}
theorem pc_onotinP (hp : X.prog = P) (hw : X.w = w) (hu : X.A.units + 1 < cLine) (hi : PE X i ty) (ho : PE X o td) : L2.PC X .NotIn i o (tONotIn P w ty td) := by
  subst hp hw
  exact pc_onotin hu hi ho
theorem pe_ogetP (hp : X.prog = P) (hw : X.w = w) (hu : X.A.units + 1 < cLine) (ho : PE X o td) (hi : PE X i ty) (hs : NoSl i) : PE X (.Subscript o i pos) (tOGet P w td ty) := by
  subst hp hw
  exact pe_oget hu ho hi hs
theorem ps_oputP (hp : X.prog = P) (hw : X.w = w) (hu : X.A.units + 1 < cLine) (ho : PE X o td) (hi : PE X i ty) (hv : PE X value tv) (hs : swapsWith value (some (.Subscript o i pos')) pos.line X.env = pure false) :
    PS X (.Assign [.Subscript o i pos'] value pos) (sOPut P w td ty tv) := by
  subst hp hw
  exact ps_oput hu ho hi hv hs
end
end Wd
end
section
set_option Elab.async false
set_option linter.all false
set_option maxRecDepth 100000
set_option maxHeartbeats 1000000
/-! enumerate(tuple). -/
namespace Wd
open PySem PySem.Spec PyProof.Rows L2
set_option maxHeartbeats 1000000 in
theorem meets_enumerate_newB1 {v : Value} {o : Obj} {H : Heap → Prop} (B : Begins v o H) :
    Meets (Builtin.«enumerate.__new__» ⟨[.type "enumerate", v], []⟩) (fun _ R s => H s.heap ∧
      R (.ok (.ret (.ref (s.heap.push o).objs.size))) { s with heap := (s.heap.push o).push { cls := .type "enumerate", data := .fields #[.none, .bool false, .ref s.heap.objs.size, rawInt 0, .none, .none] } }) :=
  .of_wp fun prog w A R s h => by
    obtain ⟨hp, g, d, tk, os⟩ := s; obtain ⟨h1, h⟩ := h
    have hsub := sub_enumerate
    have q1 : ∀ {A' : Around} {E : Value → Shared → Prop} {Q : Value → Shared → Prop}, Q (.ref hp.objs.size) ⟨hp.push o, g, d, tk, os⟩ → wpAny (model prog w) A' (pyIter v) Q E ⟨hp, g, d, tk, os⟩ :=
      fun q => B.iter prog w _ _ ⟨hp, g, d, tk, os⟩ _ h1 q
    wp_walk using q1
    refine wpAny_stack_any fun st => wpAny_pure ?_
    split
    · rename_i c _ _ _ _ _
      cases (c == Value.type "enumerate")
      · wp_walk using q1
        exact ⟨_, rfl, h⟩
      · wp_walk using q1
        exact ⟨_, rfl, h⟩
    · wp_walk using q1
      exact ⟨_, rfl, h⟩
section
variable {prog : Program} {w : World} {A : Around} {E : Value → Shared → Prop} {s : Shared}
theorem enum_begins1 {v : Value} {o : Obj} {H : Heap → Prop} {Q : Value → Shared → Prop} (B : Begins v o H) (h1 : H s.heap)
    (h : ∀ h', IsEnum h' (s.heap.objs.size + 1) s.heap.objs.size 0 .none → h'.get? s.heap.objs.size = some o → h'.objs.size = s.heap.objs.size + 2 →
      (∀ b o, s.heap.get? b = some o → h'.get? b = some o) → Q (.ref (s.heap.objs.size + 1)) { s with heap := h' }) :
    wpAny (model prog w) A (call (.type "enumerate") [v]) Q E s := by
  refine callType_new F.called_enumerate (by decide) (F.typeCall_enumerate_1 _) (F.newCall_enumerate_1 _) (fun obj => F.args_object_init_2 obj _) F.entry_enumerate_new
    (meets_enumerate_newB1 B) ⟨h1, ?_⟩
  have hz : (s.heap.push o).objs.size = s.heap.objs.size + 1 := Heap.size_push ..
  show _ ∧ _
  rw [hz]
  have he : IsEnum ((s.heap.push o).push { cls := .type "enumerate", data := .fields #[.none, .bool false, .ref s.heap.objs.size, rawInt 0, .none, .none] }) (s.heap.objs.size + 1) s.heap.objs.size 0 .none := by
    have := Heap.get?_push_size (s.heap.push o) (o := { cls := .type "enumerate", data := .fields #[.none, .bool false, .ref s.heap.objs.size, rawInt 0, .none, .none] }) rfl
    rw [hz] at this; exact this
  refine ⟨⟨_, he, rfl⟩, h _ he (Heap.get?_push_of_some _ (Heap.get?_push_size _ B.free)) (by rw [Heap.size_push, hz]) fun b o x => Heap.get?_push_of_some _ (Heap.get?_push_of_some _ x)⟩
theorem enum_endT {e it l : Addr} {i : Nat} {c : Int} {items : Array Value} {old : Value} {Q : Option Value → Shared → Prop} (hh : A.handled = none)
    (he : IsEnum s.heap e it c old) (hit : s.heap.IsTupleIter it l i) (hl : s.heap.IsTuple l items) (hx : items[i]? = none)
    (hQ : ∀ h', Heap.ExtBut it s.heap h' → Q none { s with heap := h' }) : wpAny (model prog w) A (pyNext (.ref e)) Q E s := by
  have hT : s.TypeIs (.ref e) "enumerate" := ⟨_, he, rfl⟩
  unfold pyNext
  refine wpAny_bind (wpAny_attempt (wpAny_callSpecial?_slot (name := Str.ofString "__next__") hT F.slot_enumerate_next
    (wpAny_call_entry F.slot_enumerate_next hT F.entry_enumerate_next ?_ (F.args_enumerate_next_1 _))))
  show wpAny _ _ (field (.ref e) 2 >>= _) _ _ _
  refine wpAny_bind (wpAny_field he rfl (x := .ref it) rfl ?_)
  refine wpAny_bind (wpAny_nextOf_tuple_end hh hit hl hx fun h' x he' hx' => ?_)
  obtain ⟨o, ho, hc⟩ := hx'
  refine wpAny_bind (wpAny_isInstance (T := "StopIteration") (b := true) ⟨o, ho, hc⟩ isSubtype_stop ?_)
  exact wpAny_pure (hQ _ he')
end
/-- the tuple at a, each item in a new pair -/
def IteT (K : PySem.W.Frag) (a : Addr) : It :=
  ⟨fun i H => ∃ (xs : List V) (x : V), SqT K H a xs ∧ xs[i]? = some x, fun i H v H' => ∃ T x, v = .ref T ∧ H T = none ∧ H' = upd H T (.tup [.int (i : Nat), x]) ∧ ∀ xs, SqT K H a xs → xs[i]? = some x, fun i H => ∃ xs : List V, SqT K H a xs ∧ xs.length ≤ i⟩
theorem turn_enumT {P : Program} {w : World} {K : PySem.W.Frag} {elts : List Expr} {kk : Nat} {tpos : Pos} (a e it : Addr) :
    Turn P w K (.Tuple elts kk tpos) (IteT K a) [e, it] e (fun i h => (∃ old, IsEnum h e it ((i : Nat) : Int) old) ∧ h.IsTupleIter it a i ∧ e ≠ it) where
  mem := by simp
  obj := fun i h st b hb => by
    obtain ⟨⟨old, he⟩, ⟨o, ho, hc, hd⟩, _⟩ := st
    have e' : b = e ∨ b = it := by simpa using hb
    rcases e' with z | z
    · rw [z]; exact ⟨_, he, fun v q => nomatch q⟩
    · rw [z]; exact ⟨o, ho, fun v q => by rw [hd] at q; cases q⟩
  keep := fun i h h' st k => let ⟨⟨old, he⟩, hi, hne⟩ := st; ⟨⟨old, k e (by simp) _ he⟩, hi.at fun o q => k it (by simp) o q, hne⟩
  item := by
    intro X hP hw hK hc i pins s σ H E I hf st hg
    subst hP hw hK
    obtain ⟨⟨old, he⟩, hit, hne⟩ := st
    obtain ⟨xs, x, hq, hx⟩ := hg
    obtain ⟨its, rv, p, hz⟩ := I.tuple hq
    have pT : s.heap.IsTuple a its.toArray := p
    obtain ⟨u, hu, ru⟩ := rv.get hx
    have hel : e < s.heap.objs.size := Heap.lt_size he
    have hil : it < s.heap.objs.size := by obtain ⟨_, q, _⟩ := hit; exact Heap.lt_size q
    have hal : a ≠ it := by
      rintro rfl
      obtain ⟨o, q, qc, qd⟩ := hit
      obtain ⟨o2, q2, c2, n2, d2⟩ := pT
      rw [q] at q2
      obtain rfl := Option.some.inj q2
      exact absurd (Value.type.inj (qc.symm.trans c2)) (by decide)
    have hae : e ≠ a := by
      rintro rfl
      obtain ⟨o2, q2, c2, m, d2⟩ := pT
      rw [show s.heap.get? e = _ from he] at q2
      obtain rfl := Option.some.inj q2
      cases d2
    have hlt : i < its.toArray.size := by
      have := (List.getElem?_eq_some_iff.mp hu).1
      simpa using this
    refine wpAny_pyNext_enum_itemC (Draws.tuple (A := X.A.in1) (I.ok.hd hc) it a hal its.toArray) he ⟨hit, pT⟩ hlt hne (by simp [hne, hae]) fun y h' tk hy ho hst hT hsz hk => ?_
    obtain ⟨hit', _⟩ := hst
    obtain rfl : u = y := by
      have h1 : its[i]? = some y := by simpa using hy
      rw [hu] at h1
      exact Option.some.inj h1
    refine ⟨_, rfl, wpAny_letOwnedTupleGo_enum (s := { s with heap := h', toks := tk + 1 }) ho fun h'' he' sb => ?_⟩
    have hT2 : h''.get? s.heap.objs.size = some { cls := .type "tuple", data := .seq #[.int (i : Int) tk, u] } := (sb.2 _ (Nat.ne_of_gt hel)).trans hT
    have new : ObjOk X.prog X.w (upd H s.heap.objs.size (.tup [.int (i : Nat), x])) h'' s.heap.objs.size (.tup [.int (i : Nat), x]) :=
      ⟨by show 2 ≤ sizeLine; decide, [.int (i : Int) tk, u], .cons ⟨_, rfl⟩ (.cons ru .nil), ⟨_, hT2, rfl, _, rfl⟩⟩
    have I1 : Inv X pins σ (upd H s.heap.objs.size (.tup [.int (i : Nat), x])) { s with heap := h'', toks := tk + 1 } :=
      I.turnedNew (ch := [e, it]) (fun b ob hb q => (sb.2 b (fun z => hb (by simp [z]))).trans (hk b ob (fun z => hb (by simp [z])) (fun z => hb (by simp [z])) q)) hf (Nat.le_refl _) new
    refine ⟨.ref s.heap.objs.size, _, I1, rfl, ⟨_, x, rfl, I.hok.fresh (Nat.le_refl _), rfl, fun ys hy => by rw [I.tuple_inj hy hq]; exact hx⟩, ⟨⟨u, ?_⟩, hit'.at fun o q => (sb.2 it (Ne.symm hne)).trans q, hne⟩, fun b hb => ?_⟩
    · have e1 : ((i + 1 : Nat) : Int) = (i : Int) + 1 := by omega
      rw [e1]; exact he'
    · have hb' : b < s.heap.objs.size := by
        have e' : b = e ∨ b = it := by simpa using hb
        rcases e' with z | z
        · rw [z]; exact hel
        · rw [z]; exact hil
      rw [upd_ne (Nat.ne_of_lt hb')]
      exact (hf b hb).1
  done := by
    intro X hP hw hK hc i pins s σ H E I hf st hg
    subst hP hw hK
    obtain ⟨⟨old, he⟩, hit, hne⟩ := st
    obtain ⟨xs, hq, hx⟩ := hg
    obtain ⟨its, rv, p, hz⟩ := I.tuple hq
    have pT : s.heap.IsTuple a its.toArray := p
    obtain ⟨f0, f1, f2, f3, f4, f5⟩ := hf it (by simp)
    have hl := rv.length
    exact enum_endT (I.ok.hd hc) he hit pT (by simp; omega) fun h' eb => ⟨rfl, I.turned (t' := s.toks) (fun b o hb q => eb b o hb q) f0 f1 f3 f4 f5⟩
  self := fun A i s Q E st h => let ⟨⟨_, he⟩, _⟩ := st; wpAny_pyIter_enum he h
def iEnumT (K : PySem.W.Frag) (ta : TA) : TI := fun σ H R => ta σ H fun vs H1 => ∃ a xs, vs = [.ref a] ∧ SqT K H1 a xs ∧ R (IteT K a) H1
theorem pi_enumT {X : Cx} {e : Expr} {ta : TA} {p pos tpos : Pos} {elts : List Expr} {kk : Nat} (hg : Gl X "enumerate") (hm : X.mg "enumerate" = none) (ha : PA X [e] ta) (hs : starEach [e] X.env = [(false, eval e X.env)] := by rfl) :
    PI X (.Tuple elts kk tpos) (.Call (.Name "enumerate" p) [e] [] pos) (iEnumT X.K ta) := by
  refine ⟨fun pins s σ H R I h => ?_⟩
  refine Call_ (ld_blt I hg hm boot_enumerate (PyProof.Rows.callWith_type1 (thn (ha.run pos pins s σ H _ I h) fun us s1 ⟨vs, H1, I1, r1, q1⟩ => ?_) hs rfl))
  obtain ⟨a, xs, ex, hq, q⟩ := q1
  subst ex
  cases r1 with
  | cons r rr =>
    cases rr
    cases r
    obtain ⟨its, rv, p', hz⟩ := I1.tuple hq
    have pT : s1.heap.IsTuple a its.toArray := p'
    refine enum_begins1 (begins_tuple a its.toArray) pT fun h' he hit hsz hk => wpAny_pyIter_enum he ?_
    have I2 : Inv X pins σ H1 { s1 with heap := h' } := I1.kept (t' := s1.toks) hk
    refine ⟨s1.heap.objs.size + 1, [s1.heap.objs.size + 1, s1.heap.objs.size], _, _, H1, rfl, I2, turn_enumT a (s1.heap.objs.size + 1) s1.heap.objs.size, ⟨⟨.none, he⟩, ⟨_, hit, rfl, rfl⟩, Nat.succ_ne_self _⟩, fun b hb => ?_, q⟩
    have e' : b = s1.heap.objs.size + 1 ∨ b = s1.heap.objs.size := by simpa using hb
    have hle : s1.heap.objs.size ≤ b := by
      rcases e' with z | z
      · rw [z]; exact Nat.le_add_right _ _
      · rw [z]; exact Nat.le_refl _
    exact I1.fpOk hle (I1.hok.fresh hle)
theorem walk_enumT {K : PySem.W.Frag} {a : Addr} {xs : List V} : Walk (IteT K a) xs.length (fun H => SqT K H a xs) (YPair (fun i => some (.int (i : Nat))) (fun i => xs[i]?)) := by
  refine ⟨fun i _ hi q => ⟨xs, xs[i], q, by simp [hi]⟩, fun _ q => ⟨xs, q, Nat.le_refl _⟩, fun i H v H' _ q y => ?_⟩
  obtain ⟨T, x, h1, h2, h3, h4⟩ := y
  exact ⟨T, .int (i : Nat), x, h1, h2, h3, rfl, h4 xs q⟩
end Wd
end
section
set_option Elab.async false
set_option linter.all false
set_option maxRecDepth 100000
set_option maxHeartbeats 1000000
/-! enumerate of a list or a tuple; t + u for any tuples; any slice of a tuple. -/
namespace Wd
open PySem PySem.Spec PyProof.Rows L2
/-- a list or a tuple, as it stands -/
def SeqH (H : Hp) (a : Addr) (xs : List V) : Prop := H a = some (.lst xs) ∨ H a = some (.tup xs)
theorem SeqH.same {H H' : Hp} {a : Addr} {xs : List V} (h : SeqH H a xs) (s : Same H H') : SeqH H' a xs := h.imp (s _ _) (s _ _)
def iEnumU (K : PySem.W.Frag) (ta : TA) : TI := fun σ H R => ta σ H fun vs H1 => ∃ a xs, vs = [.ref a] ∧ SeqH H1 a xs ∧ ∀ (J : It) (G : Hp → Prop), Walk J xs.length G (YPair (fun i => some (.int (i : Nat))) (fun i => xs[i]?)) → (∀ H', Same H1 H' → G H') → R J H1
theorem pi_enumU {X : Cx} {e : Expr} {ta : TA} {p pos tpos : Pos} {elts : List Expr} {kk : Nat} (hg : Gl X "enumerate") (hm : X.mg "enumerate" = none) (ha : PA X [e] ta) (hs : starEach [e] X.env = [(false, eval e X.env)] := by rfl) :
    PI X (.Tuple elts kk tpos) (.Call (.Name "enumerate" p) [e] [] pos) (iEnumU X.K ta) := by
  refine ⟨fun pins s σ H R I h => ?_⟩
  refine Call_ (ld_blt I hg hm boot_enumerate (PyProof.Rows.callWith_type1 (thn (ha.run pos pins s σ H _ I h) fun us s1 ⟨vs, H1, I1, r1, q1⟩ => ?_) hs rfl))
  obtain ⟨a, xs, ex, hq, q⟩ := q1
  subst ex
  cases r1 with
  | cons r rr =>
    cases rr
    cases r
    have e2 : ∀ {b : Addr}, b ∈ [s1.heap.objs.size + 1, s1.heap.objs.size] → s1.heap.objs.size ≤ b := fun {b} hb => by
      have e' : b = s1.heap.objs.size + 1 ∨ b = s1.heap.objs.size := by simpa using hb
      rcases e' with z | z
      · rw [z]; exact Nat.le_add_right _ _
      · rw [z]; exact Nat.le_refl _
    rcases hq with hq | hq
    · replace q := q _ _ walk_enum fun H' s => SqL.of (K := X.K) (s _ _ hq)
      replace hq := SqL.of (K := X.K) hq
      obtain ⟨its, rv, p', hz⟩ := I1.list hq
      refine call_enumerate_list p'.isList fun h' he hit hsz hk => wpAny_pyIter_enum he ?_
      have I2 : Inv X pins σ H1 { s1 with heap := h' } := I1.kept (t' := s1.toks) hk
      exact ⟨s1.heap.objs.size + 1, [s1.heap.objs.size + 1, s1.heap.objs.size], _, _, H1, rfl, I2, turn_enum a (s1.heap.objs.size + 1) s1.heap.objs.size, ⟨⟨.none, he⟩, hit, Nat.succ_ne_self _⟩, fun b hb => I1.fpOk (e2 hb) (I1.hok.fresh (e2 hb)), q⟩
    · replace q := q _ _ walk_enumT fun H' s => SqT.of (K := X.K) (s _ _ hq)
      replace hq := SqT.of (K := X.K) hq
      obtain ⟨its, rv, p', hz⟩ := I1.tuple hq
      have pT : s1.heap.IsTuple a its.toArray := p'
      refine enum_begins1 (begins_tuple a its.toArray) pT fun h' he hit hsz hk => wpAny_pyIter_enum he ?_
      have I2 : Inv X pins σ H1 { s1 with heap := h' } := I1.kept (t' := s1.toks) hk
      exact ⟨s1.heap.objs.size + 1, [s1.heap.objs.size + 1, s1.heap.objs.size], _, _, H1, rfl, I2, turn_enumT a (s1.heap.objs.size + 1) s1.heap.objs.size, ⟨⟨.none, he⟩, ⟨_, hit, rfl, rfl⟩, Nat.succ_ne_self _⟩, fun b hb => I1.fpOk (e2 hb) (I1.hok.fresh (e2 hb)), q⟩
/-- for x in xs, a list or a tuple -/
def iSeq (K : PySem.W.Frag) (tl : TE) : TI := fun σ H R => tl σ H fun x H1 => ∃ a xs, x = .ref a ∧ SeqH H1 a xs ∧ ∀ (J : It) (G : Hp → Prop), Walk J xs.length G (YAt xs) → (∀ H', Same H1 H' → G H') → R J H1
theorem pi_seq {X : Cx} {tg l : Expr} {tl : TE} (hl : PE X l tl) : PI X tg l (iSeq X.K tl) := by
  refine ⟨fun pins s σ H R I h => ?_⟩
  refine thn (hl.run pins s σ H _ I h) fun v s1 ⟨x, H1, I1, r1, q1⟩ => ?_
  obtain ⟨a, xs, e, hq, q⟩ := q1
  subst e
  cases r1
  rcases hq with hq | hq
  · replace q := q _ _ walk_list fun H' s => SqL.of (K := X.K) (s _ _ hq)
    replace hq := SqL.of (K := X.K) hq
    obtain ⟨its, rv, p, hz⟩ := I1.list hq
    refine wpAny_pyIter_list p.isList ?_
    refine ⟨s1.heap.objs.size, [s1.heap.objs.size], _, _, H1, rfl, I1.kept (t' := s1.toks) fun b o e => Heap.get?_push_of_some _ e, turn_list a _, ⟨_, Heap.get?_push_size _ rfl, rfl, rfl⟩, fun b hb => ?_, q⟩
    have e : b = s1.heap.objs.size := by simpa using hb
    subst e
    exact I1.fpOk (Nat.le_refl _) (I1.hok.fresh (Nat.le_refl _))
  · replace q := q _ _ walk_tup fun H' s => SqT.of (K := X.K) (s _ _ hq)
    replace hq := SqT.of (K := X.K) hq
    obtain ⟨its, rv, p, hz⟩ := I1.tuple hq
    refine wpAny_pyIter_tuple (show s1.heap.IsTuple a its.toArray from p) ?_
    refine ⟨s1.heap.objs.size, [s1.heap.objs.size], _, _, H1, rfl, I1.kept (t' := s1.toks) fun b o e => Heap.get?_push_of_some _ e, turn_tuple a _, ⟨_, Heap.get?_push_size _ rfl, rfl, rfl⟩, fun b hb => ?_, q⟩
    have e : b = s1.heap.objs.size := by simpa using hb
    subst e
    exact I1.fpOk (Nat.le_refl _) (I1.hok.fresh (Nat.le_refl _))
/-- t + u -/
def rCatU : R2 := fun x y H Q => ∃ a b xs ys, x = .ref a ∧ y = .ref b ∧ H a = some (.tup xs) ∧ H b = some (.tup ys) ∧ xs.length + ys.length ≤ sizeLine ∧ ∀ p H', Same H H' → H' p = some (.tup (xs ++ ys)) → Q (.ref p) H'
theorem op_catU {X : Cx} : OpR X (binaryOp .Add) rCatU := by
  intro pins s σ H x y v u Q I rx ry h
  obtain ⟨a, b, xs, ys, rfl, rfl, ha, hb, hz, k⟩ := h
  refine op_catA pins s σ H _ _ v u Q I rx ry ⟨a, b, xs, ys, rfl, rfl, SqT.of ha, SqT.of hb, hz, ?_⟩
  exact ⟨fun e => k b H (Same.refl _) (by rw [hb, e]; rfl), fun _ e => k a H (Same.refl _) (by rw [ha, e, List.append_nil]), fun _ _ p hp => k p _ (same_upd hp) upd_same⟩
/-- a slice of a tuple, the whole or not -/
theorem sl_any {H : Hp} {a : Addr} {xs : List V} {lo hi : Option Int} {Q : V → Hp → Prop} (ha : H a = some (.tup xs)) (k : ∀ p H', Same H H' → H' p = some (.tup (cutV xs lo hi)) → Q (.ref p) H') :
    (HT.sIx xs.length 0 lo = 0 ∧ HT.sIx xs.length xs.length hi = xs.length → Q (.ref a) H) ∧ (¬ (HT.sIx xs.length 0 lo = 0 ∧ HT.sIx xs.length xs.length hi = xs.length) → ∀ p, H p = none → Q (.ref p) (upd H p (.tup (cutV xs lo hi)))) := by
  refine ⟨fun ⟨h1, h2⟩ => k a H (Same.refl _) ?_, fun _ p hp => k p _ (same_upd hp) upd_same⟩
  rw [ha]
  unfold cutV
  rw [h1, h2, List.drop_zero, Nat.sub_zero, List.take_length]
def rSlU : V → Option Int → Option Int → Hp → VK → Prop := fun x lo hi H Q => ∃ a xs, x = .ref a ∧ H a = some (.tup xs) ∧ ∀ p H', Same H H' → H' p = some (.tup (cutV xs lo hi)) → Q (.ref p) H'
theorem sl_tupU {X : Cx} : SlR X rSlU := by
  intro pins s σ H x v vl vu lo hi sl Q I rx hs pl pu h
  obtain ⟨a, xs, rfl, ha, k⟩ := h
  exact sl_tupA pins s σ H _ v vl vu lo hi sl Q I rx hs pl pu ⟨a, xs, rfl, SqT.of ha, sl_any ha k⟩
theorem cutV_to (xs : List V) (n : Nat) : cutV xs none (some (n : Int)) = xs.take n := by
  unfold cutV
  rw [HT.sIx_none, HT.sIx_nat, List.drop_zero, Nat.sub_zero]
  by_cases h : n ≤ xs.length
  · rw [Nat.min_eq_left h]
  · rw [Nat.min_eq_right (by omega), List.take_of_length_le (Nat.le_refl _), List.take_of_length_le (by omega)]
theorem cutV_from (xs : List V) (n : Nat) : cutV xs (some (n : Int)) none = xs.drop n := by
  unfold cutV
  rw [HT.sIx_none, HT.sIx_nat]
  by_cases h : n ≤ xs.length
  · rw [Nat.min_eq_left h, List.take_of_length_le (by rw [List.length_drop]; exact Nat.le_refl _)]
  · rw [Nat.min_eq_right (by omega), List.drop_of_length_le (Nat.le_refl _), List.drop_of_length_le (by omega)]
    exact List.take_nil
end Wd
end
section
set_option Elab.async false
set_option linter.all false
set_option maxRecDepth 100000
set_option maxHeartbeats 1000000
set_option pp.maxSteps 600
/-! a list or a tuple: item, slice, length, its tuple, a list of it -/
namespace Wd
open PySem PySem.Spec PyProof.Rows L2
def rIxU : R2 := fun x y H Q => ∃ a xs i v, x = .ref a ∧ y = .int i ∧ SeqH H a xs ∧ atI xs i = some v ∧ Q v H
theorem ix_U {X : Cx} : IxR X rIxU := by
  intro value slice pins s σ H x y v u Q I rx ry h hs
  obtain ⟨a, xs, i, z, e1, e2, hq, he, q⟩ := h
  rcases hq with hq | hq
  · exact ix_list value slice pins s σ H x y v u Q I rx ry ⟨a, xs, i, z, e1, e2, SqL.of hq, he, q⟩ hs
  · exact ix_tup value slice pins s σ H x y v u Q I rx ry ⟨a, xs, i, z, e1, e2, SqT.of hq, he, q⟩ hs
/-- a slice: of the kind of what is cut -/
def rSlQ : V → Option Int → Option Int → Hp → VK → Prop := fun x lo hi H Q => ∃ a xs, x = .ref a ∧ SeqH H a xs ∧ ∀ p H', Same H H' → SeqH H' p (cutV xs lo hi) → Q (.ref p) H'
theorem sl_seqQ {X : Cx} : SlR X rSlQ := by
  intro pins s σ H x v vl vu lo hi sl Q I rx hs pl pu h
  obtain ⟨a, xs, rfl, ha, k⟩ := h
  rcases ha with ha | ha
  · exact sl_list pins s σ H _ v vl vu lo hi sl Q I rx hs pl pu ⟨a, xs, rfl, SqL.of ha, fun p hp => k p _ (same_upd hp) (.inl upd_same)⟩
  · exact sl_tupU pins s σ H _ v vl vu lo hi sl Q I rx hs pl pu ⟨a, xs, rfl, ha, fun p H' s e => k p H' s (.inr e)⟩
theorem SeqH.len {K : PySem.W.Frag} {H : Hp} {a : Addr} {xs : List V} (h : SeqH H a xs) : LenV K (.ref a) H xs.length := by
  rcases h with h | h
  · exact .inl ⟨xs, SqL.of h, rfl⟩
  · exact .inr ⟨xs, SqT.of h, rfl⟩
def rListU : List V → Hp → VK → Prop := fun vs H Q => ∃ a xs, vs = [.ref a] ∧ SeqH H a xs ∧ ∀ p, H p = none → Q (.ref p) (upd H p (.lst xs))
theorem call_listU {X : Cx} : CallR X (.type "list") rListU := by
  intro pins s σ H xs us Q I r h
  obtain ⟨a, ys, rfl, hq, k⟩ := h
  refine call_list_of pins s σ H _ us Q I r ⟨a, ys, rfl, ?_⟩
  rcases hq with hq | hq
  · exact .inl (SqL.of hq) |> fun z => ⟨z, k⟩
  · exact .inr (SqT.of hq) |> fun z => ⟨z, k⟩
def rTupU : List V → Hp → VK → Prop := fun vs H Q => ∃ a xs, vs = [.ref a] ∧ SeqH H a xs ∧ ∀ p H', Same H H' → H' p = some (.tup xs) → Q (.ref p) H'
theorem call_tupU {X : Cx} : CallR X (.type "tuple") rTupU := by
  intro pins s σ H xs us Q I r h
  obtain ⟨a, ys, rfl, hq, k⟩ := h
  refine call_tuple_of pins s σ H _ us Q I r ⟨a, ys, rfl, ?_⟩
  rcases hq with hq | hq
  · exact .inl ⟨SqL.of hq, fun l hl => k l _ (same_upd hl) upd_same⟩
  · exact .inr ⟨SqT.of hq, k a H (Same.refl _) hq⟩
/-- for x in xs, a list or a tuple: what walks it asks for the object alone -/
def iSeqE (K : PySem.W.Frag) (tl : TE) : TI := fun σ H R => tl σ H fun x H1 => ∃ a xs, x = .ref a ∧ SeqH H1 a xs ∧ ∀ (J : It) (G : Hp → Prop), Walk J xs.length G (YAt xs) → (∀ H', H' a = H1 a → G H') → R J H1
theorem pi_seqE {X : Cx} {tg l : Expr} {tl : TE} (hl : PE X l tl) : PI X tg l (iSeqE X.K tl) := by
  refine ⟨fun pins s σ H R I h => ?_⟩
  refine thn (hl.run pins s σ H _ I h) fun v s1 ⟨x, H1, I1, r1, q1⟩ => ?_
  obtain ⟨a, xs, e, hq, q⟩ := q1
  subst e
  cases r1
  rcases hq with hq | hq
  · replace q := q _ _ walk_list fun H' s => SqL.of (K := X.K) (s.trans hq)
    replace hq := SqL.of (K := X.K) hq
    obtain ⟨its, rv, p, hz⟩ := I1.list hq
    refine wpAny_pyIter_list p.isList ?_
    refine ⟨s1.heap.objs.size, [s1.heap.objs.size], _, _, H1, rfl, I1.kept (t' := s1.toks) fun b o e => Heap.get?_push_of_some _ e, turn_list a _, ⟨_, Heap.get?_push_size _ rfl, rfl, rfl⟩, fun b hb => ?_, q⟩
    have e : b = s1.heap.objs.size := by simpa using hb
    subst e
    exact I1.fpOk (Nat.le_refl _) (I1.hok.fresh (Nat.le_refl _))
  · replace q := q _ _ walk_tup fun H' s => SqT.of (K := X.K) (s.trans hq)
    replace hq := SqT.of (K := X.K) hq
    obtain ⟨its, rv, p, hz⟩ := I1.tuple hq
    refine wpAny_pyIter_tuple (show s1.heap.IsTuple a its.toArray from p) ?_
    refine ⟨s1.heap.objs.size, [s1.heap.objs.size], _, _, H1, rfl, I1.kept (t' := s1.toks) fun b o e => Heap.get?_push_of_some _ e, turn_tuple a _, ⟨_, Heap.get?_push_size _ rfl, rfl, rfl⟩, fun b hb => ?_, q⟩
    have e : b = s1.heap.objs.size := by simpa using hb
    subst e
    exact I1.fpOk (Nat.le_refl _) (I1.hok.fresh (Nat.le_refl _))
/-- what stands at u stays -/
theorem SeqH.eq {H H' : Hp} {a : Addr} {xs : List V} (h : SeqH H a xs) (s : ∀ o, H a = some o → (∀ φ, o ≠ .ext φ) → H' a = some o) : H' a = H a := by
  rcases h with h | h
  · rw [h, s _ h (fun _ => nofun)]
  · rw [h, s _ h (fun _ => nofun)]
end Wd
end
section
set_option Elab.async false
set_option linter.all false
set_option maxRecDepth 100000
set_option maxHeartbeats 1000000
set_option pp.maxSteps 600
/-! ### small things, as for the nets -/
namespace Wd
open PySem PySem.Spec PyProof.Rows L2 Wt TL NumText
theorem ifB {b : Bool} {A B : Prop} (h : b = true) (a : A) : if b = true then A else B := by rw [if_pos h]; exact a
theorem ifN {b : Bool} {A B : Prop} (h : b = false) (z : B) : if b = true then A else B := by
  rw [h, if_neg Bool.false_ne_true]
  exact z
theorem ifQ {b : Bool} {A B : Prop} (x : b = true → A) (y : b = false → B) : if b = true then A else B := by
  cases b
  · exact ifN rfl (y rfl)
  · exact ifB rfl (x rfl)
/-- something is drawn: at most c more draws, all but the pen as it was -/
def Drawn (d l : Addr) (a c : Int) (H : Hp) (P : Int → Hp → Prop) : Prop := ∀ a' H', a ≤ a' → a' ≤ a + c → Pen H' d l a' → But d H H' → P a' H'
structure DDraw (P : Program) (w : World) (K : PySem.W.Frag) (mg : Str → Option Value) (base : Heap) : Prop where
  law_draw : Df P w K mg base CX0 1 "_law_draw" ["_law_pen_here", "_law_many"] spDraw
  law_pick : Df P w K mg base CX0 2 "_law_pick" ["_law_pen_here", "_law_some"] (spPick K)
theorem Pen.dne {H : Hp} {d l : Addr} {a : Int} {t : Addr} {xs : List V} (h : Pen H d l a) (ht : H t = some (.lst xs)) : t ≠ d := by
  obtain ⟨cs, b, h1, _⟩ := h
  rintro rfl
  rw [ht] at h1
  cases h1
theorem Pen.dnt {H : Hp} {d l : Addr} {a : Int} {t : Addr} {xs : List V} (h : Pen H d l a) (ht : H t = some (.tup xs)) : t ≠ d := by
  obtain ⟨cs, b, h1, _⟩ := h
  rintro rfl
  rw [ht] at h1
  cases h1
theorem But.free {d l u : Addr} {a : Int} {H H' : Hp} (b : But d H H') (p : Pen H' d l a) (h : H' u = none) : H u = none := by
  cases e : H u with
  | none => rfl
  | some o =>
    obtain ⟨cs, x, h1, _⟩ := p
    by_cases z : u = d
    · subst z
      rw [h1] at h
      cases h
    · rw [b u o e z] at h
      cases h
theorem ifC' {p : Prop} [Decidable p] {A B : Prop} (a : ¬ p → A) (b : p → B) : if (!decide p) = true then A else B := by
  by_cases h : p
  · rw [decide_eq_true h, if_neg (by decide)]
    exact b h
  · rw [decide_eq_false h, if_pos (by decide)]
    exact a h
inductive All2 {α β : Type} (R : α → β → Prop) : List α → List β → Prop
  | nil : All2 R [] []
  | cons {x : α} {y : β} {xs : List α} {ys : List β} : R x y → All2 R xs ys → All2 R (x :: xs) (y :: ys)
section
variable {α β : Type} {R S : α → β → Prop}
theorem All2.len : ∀ {xs : List α} {ys : List β}, All2 R xs ys → xs.length = ys.length
  | _, _, .nil => rfl
  | _, _, .cons _ h => by rw [List.length_cons, List.length_cons, h.len]
theorem All2.mono (f : ∀ x y, R x y → S x y) : ∀ {xs : List α} {ys : List β}, All2 R xs ys → All2 S xs ys
  | _, _, .nil => .nil
  | _, _, .cons h t => .cons (f _ _ h) (t.mono f)
theorem All2.app : ∀ {xs xs' : List α} {ys ys' : List β}, All2 R xs ys → All2 R xs' ys' → All2 R (xs ++ xs') (ys ++ ys')
  | _, _, _, _, .nil, h => h
  | _, _, _, _, .cons h t, h' => .cons h (t.app h')
theorem All2.snoc {xs : List α} {ys : List β} {x : α} {y : β} (h : All2 R xs ys) (r : R x y) : All2 R (xs ++ [x]) (ys ++ [y]) := h.app (.cons r .nil)
theorem All2.at : ∀ {xs : List α} {ys : List β} {i : Nat} {x : α}, All2 R xs ys → xs[i]? = some x → ∃ y, ys[i]? = some y ∧ R x y
  | _, _, _, _, .nil, e => by simp at e
  | _, _, 0, _, .cons h _, e => by
    have e := Option.some.inj e
    subst e
    exact ⟨_, rfl, h⟩
  | _, _, i + 1, _, .cons _ t, e => t.at (i := i) (by simpa using e)
end
section
variable {d l : Addr} {a : Int} {H H' : Hp}
theorem keepT {c : Addr} {xs : List V} (p : Pen H d l a) (b : But d H H') (h : H c = some (.tup xs)) : H' c = some (.tup xs) := b c _ h (p.dnt h)
theorem keepL {c : Addr} {xs : List V} (p : Pen H d l a) (b : But d H H') (h : H c = some (.lst xs)) : H' c = some (.lst xs) := b c _ h (p.dne h)
end
theorem seq_by {t1 t2 : TS} {D : Ends} {σ : L2.St} {H : Hp} (M : L2.St → Hp → Prop) (h1 : ∀ Nx : L2.St → Hp → Prop, (∀ σ' H', M σ' H' → Nx σ' H') → t1 { D with nx := Nx } σ H) (h2 : ∀ σ' H', M σ' H' → t2 D σ' H') : tSeq t1 t2 D σ H := h1 (t2 D) h2
/-- a method of a class, as the text keeps it -/
structure Md (P : Program) (w : World) (K : PySem.W.Frag) (mg : Str → Option Value) (base : Heap) (C : Addr) (CX : CXT) (k : Nat) (m : Str) (ps : List Str) (sp : Sp) : Prop where
  ex : ∃ f fd, Meth K C m f ∧ FnOk P w K mg base CX k f fd ps sp ∧ Binds K fd ps []
section
variable {X : Cx} {CX : CXT} {k : Nat} {m : Str} {C : Addr} {ps : List Str} {sp : Sp} {E : XK} {o e : Expr} {es : List Expr} {ta : TE} {t : TA} {apos pos : Pos}
theorem pe_md {pl : Sem Bool} (M : Md X.prog X.w X.K X.mg X.base C CX k m ps sp) (he : PE X o ta) (c : Cls X.K C) (hr : Room k X.A) (hx : Passes CX X E) (ha : PA X (e :: es) t)
    (hst : starEach (e :: es) X.env = (false, eval e X.env) :: starEach es X.env := by rfl) (hpl : (backTo pos (starEach es X.env)).any (·.1) = false := by rfl)
    (ht : eval (.Call (.Attribute o m apos) (e :: es) [] pos) X.env = (do
      let ov ← eval o X.env
      standAt apos.atName
      let (f, first) ← holding [ov] (getMethod ov m pl)
      callWith pos f first (backTo pos (starEach (e :: es) X.env)) (backToKw pos (keywordEach [] X.env))) := by rfl) :
    PE X (.Call (.Attribute o m apos) (e :: es) [] pos) (tMeth C m sp [] E ta t) := by
  obtain ⟨f, fd, hm, G, hb⟩ := M.ex
  exact pe_meth (pl := pl) he c hm G hr hb .nil hx ha hst hpl ht
end
theorem sh_of {d : PyData} (h1 : d.canLay0 = true) (h2 : d.depth ≤ 64) : SeqAt.shaped d = true := by
  show (d.canLay0 && decide (d.depth ≤ 64)) = true
  rw [Bool.and_eq_true]
  exact ⟨h1, decide_eq_true h2⟩
theorem norm_st {t1 t2 : TS} {D : Ends} {σ : L2.St} (σ' : L2.St) {H : Hp} (e : σ = σ') (h : tSeq t1 t2 D σ' H) : tSeq t1 t2 D σ H := e ▸ h
theorem all2_of {α β : Type} {R : α → β → Prop} : ∀ {xs : List α} {ys : List β} {i : Nat} {y : β}, All2 R xs ys → ys[i]? = some y → ∃ x, xs[i]? = some x ∧ R x y
  | _, _, _, _, .nil, e => by simp at e
  | _, _, 0, _, .cons h _, e => by
    have e := Option.some.inj e
    subst e
    exact ⟨_, rfl, h⟩
  | _, _, i + 1, _, .cons _ t, e => all2_of (i := i) t (by simpa using e)
end Wd
end
section
set_option Elab.async false
set_option linter.all false
set_option maxRecDepth 100000
set_option maxHeartbeats 2000000
set_option pp.maxSteps 900
/-! ### is_integer, _is_piece -/
namespace Wd
open PySem PySem.Spec PyProof.Rows L2 Wt TL NumText
/-- whether a value is an integer -/
inductive IntB (H : Hp) : V → Bool → Prop
  | int (n : Int) : IntB H (.int n) true
  | bl (b : Bool) : IntB H (.bl b) false
  | non : IntB H .non false
  | str (z : Str) : IntB H (.str z) false
  | tup {a : Addr} {xs : List V} (e : H a = some (.tup xs)) : IntB H (.ref a) false
  | lst {a : Addr} {xs : List V} (e : H a = some (.lst xs)) : IntB H (.ref a) false
def spIsInt : Sp := fun vs H Q _ => ∃ (v : V) (b : Bool), vs = [v] ∧ IntB H v b ∧ Q (.bl b) H
/-- a value that is no container -/
def FlatV : V → Prop
  | .int _ => True
  | .bl _ => True
  | .non => True
  | .str _ => True
  | _ => False
def isI : V → Bool
  | .int _ => true
  | _ => false
theorem FlatV.intB {H : Hp} {v : V} (h : FlatV v) : IntB H v (isI v) := by
  cases v with
  | int n => exact .int n
  | bl b => exact .bl b
  | non => exact .non
  | str z => exact .str z
  | _ => exact h.elim
/-- how many members a piece of a kind has -/
def memK (k : Str) : Option Int := if k = "one" then some 2 else if k = "up" then some 3 else if k = "down" then some 3 else if k = "every" then some 3 else none
def ge1V : Option V → Bool
  | some (.int n) => decide (1 ≤ n)
  | _ => false
/-- whether the members are a piece -/
def okP : List V → Bool
  | .str k :: r => decide (memK k = some ((r.length : Int) + 1)) && (r.all isI && (decide (k = "one") || ge1V r[1]?))
  | _ => false
/-- a value that may stand in the place of a piece -/
inductive PieV (H : Hp) : V → Bool → Prop
  | int (n : Int) : PieV H (.int n) false
  | bl (b : Bool) : PieV H (.bl b) false
  | non : PieV H .non false
  | str (z : Str) : PieV H (.str z) false
  | seq {a : Addr} {xs : List V} (e : SeqH H a xs) (f : ∀ v ∈ xs, FlatV v) (l : xs.length ≤ 100) : PieV H (.ref a) (okP xs)
def spIsPiece : Sp := fun vs H Q _ => ∃ (v : V) (b : Bool), vs = [v] ∧ PieV H v b ∧ ∀ H', Same H H' → Q (.bl b) H'
/-- the dict of the kinds -/
structure Tq (K : PySem.W.Frag) (w : World) : Prop where
  kd : KDic K w (He.ga K "MEMBERS")
  kg : ∀ z, KGet K w (He.ga K "MEMBERS") z ((memK z).map V.int)
theorem kit2 {K : PySem.W.Frag} {t a b : Value} {x y : Bool} (h1 : PySem.W.kitOne K t a = some x) (h2 : PySem.W.kitOne K t b = some y) : PySem.W.kitAny K t [a, b] = some (x || y) := by
  cases x <;> cases y <;> simp [PySem.W.kitAny, h1, h2]
theorem kTL_int {K : PySem.W.Frag} : PySem.W.kitAny K (.type "int") [.type "tuple", .type "list"] = some false := kit2 (x := false) (y := false) (kit_ty (a := "int") (b := "tuple") (r := false) (by decide +kernel)) (kit_ty (a := "int") (b := "list") (r := false) (by decide +kernel))
theorem kTL_bl {K : PySem.W.Frag} : PySem.W.kitAny K (.type "bool") [.type "tuple", .type "list"] = some false := kit2 (x := false) (y := false) (kit_ty (a := "bool") (b := "tuple") (r := false) (by decide +kernel)) (kit_ty (a := "bool") (b := "list") (r := false) (by decide +kernel))
theorem kTL_non {K : PySem.W.Frag} : PySem.W.kitAny K (.type "NoneType") [.type "tuple", .type "list"] = some false := kit2 (x := false) (y := false) (kit_ty (a := "NoneType") (b := "tuple") (r := false) (by decide +kernel)) (kit_ty (a := "NoneType") (b := "list") (r := false) (by decide +kernel))
theorem kTL_str {K : PySem.W.Frag} : PySem.W.kitAny K (.type "str") [.type "tuple", .type "list"] = some false := kit2 (x := false) (y := false) (kit_ty (a := "str") (b := "tuple") (r := false) (by decide +kernel)) (kit_ty (a := "str") (b := "list") (r := false) (by decide +kernel))
theorem kTL_tup {K : PySem.W.Frag} : PySem.W.kitAny K (.type "tuple") [.type "tuple", .type "list"] = some true := kit2 (x := true) (y := false) (kit_ty (a := "tuple") (b := "tuple") (r := true) (by decide +kernel)) (kit_ty (a := "tuple") (b := "list") (r := false) (by decide +kernel))
theorem kTL_lst {K : PySem.W.Frag} : PySem.W.kitAny K (.type "list") [.type "tuple", .type "list"] = some true := kit2 (x := false) (y := true) (kit_ty (a := "list") (b := "tuple") (r := false) (by decide +kernel)) (kit_ty (a := "list") (b := "list") (r := true) (by decide +kernel))
section
variable {P : Program} {w : World} {K : PySem.W.Frag} {mg : Str → Option Value} {base : Heap} {f : Addr} {fd : FuncData}
theorem scIs_integer : FnScope ["value"] ["value"] (defScope (top i_is_integer)) := ⟨rfl, rfl, rfl, by decide +kernel, rfl, by decide +kernel, by decide +kernel⟩
theorem ok_isInt (F : FnG K "is_integer" i_is_integer f fd) (T : Tx K mg) : FnOk P w K mg base CX0 1 f fd ["value"] spIsInt := by
  refine F.ok scIs_integer (fun vs H Q E h => ?_) (fun cdv A outer s H vs Q E hr h => ?_)
  · obtain ⟨v, b, rfl, _⟩ := h
    rfl
  · obtain ⟨v, b, rfl, hb, k⟩ := h
    refine ⟨_, PSs.nox (pss_one (ps_ret (pe_and (pe_callB call_isi (by rfl) T.isinstance (by decide +kernel) (pa_cons (pv 0) (pa_cons (pe_bltn (v := .ty "int") (by rfl) T.int (by decide +kernel) rfl) pa_nil))) (pe_one (pe_not (pe_callB call_isi (by rfl) T.isinstance (by decide +kernel) (pa_cons (pv 0) (pa_cons (pe_bltn (v := .ty "bool") (by rfl) T.bool (by decide +kernel) rfl) pa_nil)))))))), ?_⟩
    cases hb with
    | int n =>
      refine ⟨_, rfl, .int n, .ty "int", .type "int", .type "int", true, rfl, .ty _, .base (.int _), kit_ty (by decide +kernel), true, rfl, iteT ?_⟩
      exact ⟨_, rfl, .int n, .ty "bool", .type "int", .type "bool", false, rfl, .ty _, .base (.int _), kit_ty (by decide +kernel), false, rfl, k⟩
    | bl q =>
      refine ⟨_, rfl, .bl q, .ty "int", .type "bool", .type "int", true, rfl, .ty _, .base (.bl _), kit_ty (by decide +kernel), true, rfl, iteT ?_⟩
      exact ⟨_, rfl, .bl q, .ty "bool", .type "bool", .type "bool", true, rfl, .ty _, .base (.bl _), kit_ty (by decide +kernel), true, rfl, k⟩
    | non => exact ⟨_, rfl, .non, .ty "int", .type "NoneType", .type "int", false, rfl, .ty _, .base .non, kit_ty (by decide +kernel), false, rfl, iteF k⟩
    | str z => exact ⟨_, rfl, .str z, .ty "int", .type "str", .type "int", false, rfl, .ty _, .base (.str _), kit_ty (by decide +kernel), false, rfl, iteF k⟩
    | @tup a xs e => exact ⟨_, rfl, .ref a, .ty "int", .type "tuple", .type "int", false, rfl, .ty _, .base (.tup e), kit_ty (by decide +kernel), false, rfl, iteF k⟩
    | @lst a xs e => exact ⟨_, rfl, .ref a, .ty "int", .type "list", .type "int", false, rfl, .ty _, .base (.lst e), kit_ty (by decide +kernel), false, rfl, iteF k⟩
structure DPiece (P : Program) (w : World) (K : PySem.W.Frag) (mg : Str → Option Value) (base : Heap) : Prop where
  is_integer : Df P w K mg base CX0 1 "is_integer" ["value"] spIsInt
  all : mg "all" = none
theorem scIsPiece : FnScope ["piece", "number"] ["piece"] (defScope (top i__is_piece)) := ⟨rfl, rfl, rfl, by decide +kernel, rfl, by decide +kernel, by decide +kernel⟩
theorem ok_isPiece (F : FnG K "_is_piece" i__is_piece f fd) (T : Tx K mg) (Tk : Tq K w) (D : DPiece P w K mg base) : FnOk P w K mg base CX0 2 f fd ["piece"] spIsPiece := by
  refine F.ok scIsPiece (fun vs H Q E h => ?_) (fun cdv A outer s H vs Q E hr h => ?_)
  · obtain ⟨v, b, rfl, _⟩ := h
    rfl
  · obtain ⟨v, b, rfl, hb, k⟩ := h
    refine ⟨_, PSs.nox (pss_cons (ps_if (PW.pt (pw_or (pt_not (pt_val (pe_callB call_isiT (by rfl) T.isinstance (by decide +kernel) (pa_cons (pv 0) (pa_cons (pe_tup (pa_cons (pe_bltn (v := .ty "tuple") (by rfl) T.tuple (by decide +kernel) rfl) (pa_cons (pe_bltn (v := .ty "list") (by rfl) T.list (by decide +kernel) rfl) pa_nil))) pa_nil))))) (pw_or (pt_cmpR op_eq (pe_callB call_len (by rfl) T.len PySem.boot_len (pa_cons (pv 0) pa_nil)) pe_int (nomark _)) (pw_or1 (pt_not (pt_val (pe_callB call_isi (by rfl) T.isinstance (by decide +kernel) (pa_cons (pe_ix ix_U (pv 0) pe_int (fun _ _ => rfl)) (pa_cons (pe_bltn (v := .ty "str") (by rfl) T.str (by decide +kernel) rfl) pa_nil))))))))) (pss_one (ps_ret pe_bl)) pss_nil)
        (pss_cons (ps_if (pt_cmpR op_ne (pe_kget (pe_glob (v := .ref (He.ga K "MEMBERS")) rfl T.MEMBERS rfl) (pe_ix (r := rIxU) ix_U (pv 0) pe_int (fun _ _ => rfl)) ⟨rfl, rfl, rfl, rfl⟩) (pe_callB call_len (by rfl) T.len PySem.boot_len (pa_cons (pv 0) pa_nil)) (nomark _)) (pss_one (ps_ret pe_bl)) pss_nil)
        (pss_cons (ps_if (pt_not (pt_val (pe_callB (cr_all rfl) (by rfl) D.all (by decide +kernel) (pa_cons (pe_lc (own := [("number", 1)]) rfl scIsPiece.nd (pi_seqE (pe_slice sl_seqQ (pv 0) (po_some pe_int) po_none)) (blkOk_by (own := [("number", 1)]) (N := ["piece", "number"]) (sc := defScope (top i__is_piece)) (by decide +kernel)) (fun _ _ _ _ _ => (pg_name (i := 1) scIsPiece.nd rfl (Or.inl rfl))) (fun _ _ _ _ _ => pts_nil) (fun _ _ _ _ _ => (pe_cd D.is_integer (hr.mono (by decide)) pass0 (pa_cons (pv 1) pa_nil)))) pa_nil)))) (pss_one (ps_ret pe_bl)) pss_nil)
        (pss_one (ps_ret (pe_or (pe_cmpR op_eq (pe_ix ix_U (pv 0) pe_int (fun _ _ => rfl)) pe_str (nomark _)) (pe_one (pe_cmpR op_ge (pe_ix ix_U (pv 0) pe_int (fun _ _ => rfl)) pe_int (nomark _))))))))), ?_⟩
    cases hb with
    | int n => exact ⟨_, rfl, (by show 2 ≤ sizeLine; decide), fun T hT => ⟨_, _, _, _, _, false, rfl, upd_same, .cons (.ty _) (.cons (.ty _) .nil), .base (.int _), kTL_int, _, rfl, ifB rfl (ifB rfl (k _ (same_upd hT)))⟩⟩
    | bl n => exact ⟨_, rfl, (by show 2 ≤ sizeLine; decide), fun T hT => ⟨_, _, _, _, _, false, rfl, upd_same, .cons (.ty _) (.cons (.ty _) .nil), .base (.bl _), kTL_bl, _, rfl, ifB rfl (ifB rfl (k _ (same_upd hT)))⟩⟩
    | non => exact ⟨_, rfl, (by show 2 ≤ sizeLine; decide), fun T hT => ⟨_, _, _, _, _, false, rfl, upd_same, .cons (.ty _) (.cons (.ty _) .nil), .base .non, kTL_non, _, rfl, ifB rfl (ifB rfl (k _ (same_upd hT)))⟩⟩
    | str z => exact ⟨_, rfl, (by show 2 ≤ sizeLine; decide), fun T hT => ⟨_, _, _, _, _, false, rfl, upd_same, .cons (.ty _) (.cons (.ty _) .nil), .base (.str _), kTL_str, _, rfl, ifB rfl (ifB rfl (k _ (same_upd hT)))⟩⟩
    | @seq a xs e fl lx =>
      refine ⟨_, rfl, (by show 2 ≤ sizeLine; decide), fun T hT => ?_⟩
      have s1 := same_upd (o := .tup [.ty "tuple", .ty "list"]) hT
      have tq : (upd H T (.tup [.ty "tuple", .ty "list"])) T = some (.tup [.ty "tuple", .ty "list"]) := upd_same
      have e1 := e.same s1
      generalize upd H T (.tup [.ty "tuple", .ty "list"]) = H1 at s1 tq e1 ⊢
      have ty : ∃ t, TyX K H1 (.ref a) t ∧ PySem.W.kitAny K t [.type "tuple", .type "list"] = some true := by
        rcases e1 with q | q
        · exact ⟨_, .base (.lst q), kTL_lst⟩
        · exact ⟨_, .base (.tup q), kTL_tup⟩
      obtain ⟨t, ty1, ty2⟩ := ty
      refine ⟨_, _, _, t, _, true, rfl, tq, .cons (.ty _) (.cons (.ty _) .nil), ty1, ty2, _, rfl, ifN rfl ?_⟩
      have len1 := SeqH.len (K := K) e1
      refine ⟨_, rfl, _, _, rfl, len1, rfl, _, rfl, ?_⟩
      cases xs with
      | nil => exact ifB rfl (ifB rfl (k _ s1))
      | cons v r =>
        refine ifF (fun e => by have := V.int.inj e; rw [List.length_cons] at this; omega) ?_
        have at0 : atI (v :: r) 0 = some v := atI_nat (j := 0) rfl
        have fv := fl v List.mem_cons_self
        refine ⟨_, rfl, a, _, _, v, rfl, rfl, e1, at0, ?_⟩
        by_cases hs : ∃ z, v = .str z
        · obtain ⟨z, rfl⟩ := hs
          refine ⟨.str z, .ty "str", .type "str", .type "str", true, rfl, .ty _, .base (.str _), kit_ty (by decide +kernel), _, rfl, ifN rfl ?_⟩
          refine ⟨_, rfl, Tk.kd, _, rfl, a, _, _, .str z, rfl, rfl, e1, at0, z, _, rfl, Tk.kg z, ?_⟩
          refine ⟨_, rfl, _, _, rfl, len1, ?_⟩
          have no : memK z ≠ some ((r.length : Int) + 1) → okP (.str z :: r) = false := fun h => by
            show (decide (memK z = some ((r.length : Int) + 1)) && _) = false
            rw [decide_eq_false h]
            rfl
          cases hm : memK z with
          | none =>
            refine ⟨rfl, _, rfl, ifB rfl ?_⟩
            rw [no (by rw [hm]; exact nofun)] at k
            exact k _ s1
          | some m =>
            refine ⟨rfl, _, rfl, ifC' (fun hne => ?_) (fun heq => ?_)⟩
            · rw [no (by rw [hm]; exact fun e => hne (by rw [Option.some.inj e, List.length_cons]; rfl))] at k
              exact k _ s1
            · have em : m = (r.length : Int) + 1 := V.int.inj heq
              refine ⟨_, rfl, _, rfl, a, _, rfl, e1, fun p H2 s2 e2 => ?_⟩
              rw [show cutV (V.str z :: r) (some 1) none = r from cutV_from (V.str z :: r) 1] at e2
              refine ⟨p, r, rfl, e2, fun J G wk hG lB hlB => lc_it wk (fun i H' => Same H2 H' ∧ H' lB = some (.lst (((r.map isI).take i).map V.bl))) ⟨same_upd hlB, upd_same⟩ (fun i H' _ zz => hG _ (e2.eq fun o e _ => zz.1 _ _ e)) ?_ ?_⟩
              · rintro i x Hy H3 hi ⟨s3, q3⟩ ⟨rfl, hvx⟩
                have fx : FlatV x := fl x (List.mem_cons_of_mem _ (List.mem_of_getElem? hvx))
                refine ⟨rfl, iteT (B := Same H2 H3 ∧ H3 lB = some (.lst (((r.map isI).take (i + 1)).map V.bl))) ?_⟩
                refine ⟨_, rfl, x, isI x, rfl, fx.intB, _, q3, by rw [List.length_map, List.length_take, List.length_map, sizeLine_eq]; rw [List.length_cons] at lx; omega, fun c o zz => ?_, ?_⟩
                · rw [upd_ne (ne_of_none zz hlB)]
                  exact s3 _ _ zz
                · rw [upd_same, List.take_add_one, List.getElem?_map, hvx, List.map_append]
                  rfl
              rintro H3 ⟨s3, q3⟩
              rw [List.take_of_length_le (by rw [List.length_map]; exact Nat.le_refl _)] at q3
              refine ⟨lB, _, rfl, SqL.of q3, _, rfl, ?_⟩
              have s13 := (s1.trans s2).trans s3
              have e3 := (e1.same s2).same s3
              have all2 : (r.map isI).all id = r.all isI := by rw [List.all_map]; rfl
              rw [all2]
              have okE : okP (.str z :: r) = (r.all isI && (decide (z = "one") || ge1V r[1]?)) := by
                show (decide (memK z = some ((r.length : Int) + 1)) && _) = _
                rw [decide_eq_true (by rw [hm, em]), Bool.true_and]
              rw [okE] at k
              cases ha : r.all isI with
              | false =>
                rw [ha] at k
                exact ifB rfl (k _ s13)
              | true =>
                rw [ha, Bool.true_and] at k
                refine ifN rfl ?_
                refine ⟨_, rfl, a, _, _, .str z, rfl, rfl, e3, at0, ?_⟩
                by_cases hz : z = "one"
                · subst hz
                  refine ⟨rfl, _, rfl, iteT ?_⟩
                  rw [decide_eq_true rfl, Bool.true_or] at k
                  exact k _ s13
                · refine ⟨rfl, _, congrArg V.bl (decide_eq_false fun e => hz (V.str.inj e)), iteF ?_⟩
                  rw [decide_eq_false hz, Bool.false_or] at k
                  have m3 : m = 3 := by
                    unfold memK at hm
                    rw [if_neg hz] at hm
                    split at hm
                    · exact (Option.some.inj hm).symm
                    · split at hm
                      · exact (Option.some.inj hm).symm
                      · split at hm
                        · exact (Option.some.inj hm).symm
                        · cases hm
                  obtain ⟨v1, v2, rfl⟩ : ∃ v1 v2, r = [v1, v2] := by
                    match r, em with
                    | [v1, v2], _ => exact ⟨v1, v2, rfl⟩
                    | [], e => rw [m3] at e; simp at e
                    | [v1], e => rw [m3] at e; simp at e
                    | v1 :: v2 :: v3 :: r, e => rw [m3] at e; simp at e; omega
                  obtain ⟨t, rfl⟩ : ∃ t, v2 = .int t := by
                    rw [List.all_cons, List.all_cons, Bool.and_eq_true, Bool.and_eq_true] at ha
                    cases v2 with
                    | int t => exact ⟨t, rfl⟩
                    | _ => exact absurd ha.2.1 Bool.false_ne_true
                  refine ⟨_, rfl, a, _, _, .int t, rfl, rfl, e3, atI_nat (j := 2) rfl, ?_⟩
                  exact ⟨_, _, rfl, rfl, k _ s13⟩
        · obtain ⟨t, ht, hk⟩ : ∃ t, TyX K H1 v t ∧ PySem.W.kitOne K t (.type "str") = some false := by
            cases v with
            | int n => exact ⟨_, .base (.int n), kit_ty (by decide +kernel)⟩
            | bl n => exact ⟨_, .base (.bl n), kit_ty (by decide +kernel)⟩
            | non => exact ⟨_, .base .non, kit_ty (by decide +kernel)⟩
            | str z => exact absurd ⟨z, rfl⟩ hs
            | _ => exact fv.elim
          refine ⟨v, .ty "str", t, .type "str", false, rfl, .ty _, ht, hk, _, rfl, ifB rfl ?_⟩
          have eo : okP (v :: r) = false := by
            cases v with
            | str z => exact absurd ⟨z, rfl⟩ hs
            | _ => rfl
          rw [eo] at k
          exact k _ s1
end
end Wd
end
section
set_option Elab.async false
set_option linter.all false
set_option maxRecDepth 100000
set_option maxHeartbeats 2000000
set_option pp.maxSteps 900
/-! A set of whole numbers made by a comprehension of two clauses; its length. -/
namespace Wd
open PySem PySem.Spec PyProof.Rows L2
section
variable {prog : Program} {w : World} {A : Around} {R : Result → Shared → Prop} {s : Shared} {elt ta ia tb ib : Expr} {fa fb : List Expr} {scope : Scope} {pos : Pos} {it acc : Value} {env : Env}
/-- the tree of such a comprehension -/
abbrev sc2E (elt ta ia tb ib : Expr) (fa fb : List Expr) (scope : Scope) (pos : Pos) : Expr := .SetComp elt [⟨ta, ia, fa, 0⟩, ⟨tb, ib, fb, 0⟩] scope pos
abbrev raisesTo (prog : Program) (w : World) (A : Around) (env : Env) (R : Result → Shared → Prop) : Value → Shared → Prop := notedBy (model prog w) A env fun e s' => R (.error e) s'
abbrev testsOf (fs : List Expr) (env : Env) : Sem Bool := forIn fs true fun c r => if r = true then do let ok ← isTrue c env (eval c env); pure (ForInStep.yield ok) else pure (ForInStep.yield r)
theorem sc2_outer : compTurn (sc2E elt ta ia tb ib fa fb scope pos) 0 it acc env = (do
      standAt ia.pos
      match ← pyNext it with
      | none => pure (.done .next)
      | some v => do
        letOwnedTupleGo ta it v; assign ta env v
        let ok ← testsOf fa env
        if ok then do
          let src ← eval ib env; standAt ib.pos
          let src ← foldedSetIterable ib env src
          let _ ← runOwn (.compStart (sc2E elt ta ia tb ib fa fb scope pos) 1 (← holding [src] (pyIter src)) acc env) env
        again (.compLoop (sc2E elt ta ia tb ib fa fb scope pos) 0 it acc env)) := by rfl
theorem sc2_inner : compTurn (sc2E elt ta ia tb ib fa fb scope pos) 1 it acc env = (do
      standAt ib.pos
      match ← pyNext it with
      | none => pure (.done .next)
      | some v => do
        letOwnedTupleGo tb it v; assign tb env v
        let ok ← testsOf fb env
        if ok then
          (do let z ← eval elt env; standAt elt.pos; let _ ← call (.builtin "set.add") [acc, z])
        again (.compLoop (sc2E elt ta ia tb ib fa fb scope pos) 1 it acc env)) := by rfl
/-- the outer clause's loop -/
theorem sc2_loopA (hs : ∀ x, foldedSetIterable ib env x = pure x) (I : Nat → Shared → Prop)
    (turn : ∀ n s, I n s → wpAny (model prog w) A (pyNext it) (fun r s₁ => match r with
      | none => R (.ok .next) s₁
      | some v => wpAny (model prog w) A (letOwnedTupleGo ta it v) (fun _ u₁ => wpAny (model prog w) A (assign ta env v) (fun _ s₂ => wpAny (model prog w) A (testsOf fa env) (fun ok s₃ =>
            if ok = true then wpAny (model prog w) A (eval ib env) (fun x s₄ => wpAny (model prog w) A (pyIter x) (fun it1 s₅ =>
              codeAny (model prog w) A (.compStart (sc2E elt ta ia tb ib fa fb scope pos) 1 it1 acc env) (fun r s' => match r with
                | .ok _ => ∃ m, m < n ∧ I m s'
                | .error _ => False) s₅) (raisesTo prog w A env R) s₄) (raisesTo prog w A env R) s₃
            else ∃ m, m < n ∧ I m s₃) (raisesTo prog w A env R) s₂) (raisesTo prog w A env R) u₁) (raisesTo prog w A env R) s₁) (raisesTo prog w A env R) s)
    (n : Nat) (h : I n s) : codeAny (model prog w) A (.compLoop (sc2E elt ta ia tb ib fa fb scope pos) 0 it acc env) R s := by
  refine codeAny_loop rfl I (fun n s hI => ?_) n h
  show wpAny _ A ((compTurn (sc2E elt ta ia tb ib fa fb scope pos) 0 it acc env).onRaise (fun x => do noteFrame x env; theTreesLotGoes x)) _ _ s
  refine wpAny_noted ?_
  rw [sc2_outer]
  refine wpAny_bind (wpAny_standAt (wpAny_bind (wpAny_mono (turn n s hI) (fun r s₁ g1 => ?_) fun _ _ z => z)))
  cases r with
  | none => exact wpAny_pure g1
  | some v =>
    refine wpAny_bind (wpAny_mono g1 (fun _ u₁ g2 => wpAny_bind (wpAny_mono g2 (fun _ s₂ g3 => wpAny_bind (wpAny_mono g3 (fun ok s₃ g4 => ?_) fun _ _ z => z)) fun _ _ z => z)) fun _ _ z => z)
    cases ok with
    | false => exact wpAny_pure ⟨rfl, g4⟩
    | true =>
      refine wpAny_bind (wpAny_mono g4 (fun x s₄ g5 => ?_) fun _ _ z => z)
      refine wpAny_bind (wpAny_standAt (wpAny_bind (wpAny_of_eq (hs x) (wpAny_bind (wpAny_holding (wpAny_mono g5 (fun it1 s₅ g6 => ?_) fun _ _ z => z))))))
      refine wpAny_bind (wpAny_runOwn ?_)
      rw [Around.mark_none]
      refine codeAny_mono g6 fun r s' hr => ?_
      cases r with
      | error e => exact hr.elim
      | ok f =>
        first
          | exact wpAny_pure ⟨rfl, hr⟩
          | exact wpAny_bind (wpAny_pure (wpAny_pure ⟨rfl, hr⟩))
/-- the inner clause's loop -/
theorem sc2_loopB (I : Nat → Shared → Prop)
    (turn : ∀ n s, I n s → wpAny (model prog w) A (pyNext it) (fun r s₁ => match r with
      | none => R (.ok .next) s₁
      | some v => wpAny (model prog w) A (letOwnedTupleGo tb it v) (fun _ u₁ => wpAny (model prog w) A (assign tb env v) (fun _ s₂ => wpAny (model prog w) A (testsOf fb env) (fun ok s₃ =>
            if ok = true then wpAny (model prog w) A (eval elt env) (fun x s₄ => wpAny (model prog w) A (call (.builtin "set.add") [acc, x]) (fun _ s₅ => ∃ m, m < n ∧ I m s₅) (raisesTo prog w A env R) s₄) (raisesTo prog w A env R) s₃
            else ∃ m, m < n ∧ I m s₃) (raisesTo prog w A env R) s₂) (raisesTo prog w A env R) u₁) (raisesTo prog w A env R) s₁) (raisesTo prog w A env R) s)
    (n : Nat) (h : I n s) : codeAny (model prog w) A (.compLoop (sc2E elt ta ia tb ib fa fb scope pos) 1 it acc env) R s := by
  refine codeAny_loop rfl I (fun n s hI => ?_) n h
  show wpAny _ A ((compTurn (sc2E elt ta ia tb ib fa fb scope pos) 1 it acc env).onRaise (fun x => do noteFrame x env; theTreesLotGoes x)) _ _ s
  refine wpAny_noted ?_
  rw [sc2_inner]
  refine wpAny_bind (wpAny_standAt (wpAny_bind (wpAny_mono (turn n s hI) (fun r s₁ g1 => ?_) fun _ _ z => z)))
  cases r with
  | none => exact wpAny_pure g1
  | some v =>
    refine wpAny_bind (wpAny_mono g1 (fun _ u₁ g2 => wpAny_bind (wpAny_mono g2 (fun _ s₂ g3 => wpAny_bind (wpAny_mono g3 (fun ok s₃ g4 => ?_) fun _ _ z => z)) fun _ _ z => z)) fun _ _ z => z)
    cases ok with
    | false => exact wpAny_pure ⟨rfl, g4⟩
    | true => exact wpAny_bind (wpAny_bind (wpAny_mono g4 (fun x s₄ g5 => wpAny_bind (wpAny_standAt (wpAny_bind (wpAny_mono g5 (fun _ s₅ g6 => wpAny_pure (wpAny_pure ⟨rfl, g6⟩)) fun _ _ z => z)))) fun _ _ z => z))
/-- a clause's start -/
theorem sc2_start (i : Nat) (hi : i = 0 ∨ i = 1) (h0 : codeAny (model prog w) A (.compLoop (sc2E elt ta ia tb ib fa fb scope pos) i it acc env) R s)
    (h : wpAny (model prog w) A (pyIter it) (fun it' s' => codeAny (model prog w) A (.compLoop (sc2E elt ta ia tb ib fa fb scope pos) i it' acc env) R s') (notedBy (model prog w) A env fun x s' => R (.error x) s') s) :
    codeAny (model prog w) A (.compStart (sc2E elt ta ia tb ib fa fb scope pos) i it acc env) R s := by
  refine codeAny_of_tree ?_
  show wpAny _ _ ((compStart (sc2E elt ta ia tb ib fa fb scope pos) i it acc env).onRaise (fun x => do noteFrame x env; standAt theWindowsPlace)) _ _ s
  refine wpAny_notedAt ?_
  rcases hi with rfl | rfl
  all_goals
    unfold compStart
    show wpAny _ _ (ask >>= _) _ _ s
    refine wpAny_bind (wpAny_askSetting (wpAny_ite ?_))
    split
    · first
        | exact wpAny_bind (wpAny_pure (wpAny_pure (And.intro rfl h0)))
        | exact wpAny_pure (And.intro rfl h0)
    · first
        | exact wpAny_bind (wpAny_rule (wpAny_bind (wpAny_standAt (wpAny_bind (wpAny_mono h (fun it' s' g => wpAny_pure (And.intro rfl g)) fun _ _ z => z)))))
        | (refine wpAny_bind (wpAny_rule ?_); show wpAny _ _ (standAt ia.pos >>= _) _ _ s; exact wpAny_bind (wpAny_standAt (wpAny_bind (wpAny_mono h (fun it' s' g => wpAny_pure (And.intro rfl g)) fun _ _ z => z))))
        | (refine wpAny_bind (wpAny_rule ?_); show wpAny _ _ (standAt ib.pos >>= _) _ _ s; exact wpAny_bind (wpAny_standAt (wpAny_bind (wpAny_mono h (fun it' s' g => wpAny_pure (And.intro rfl g)) fun _ _ z => z))))
end
section
variable {X : Cx}
/-- len of a set of whole numbers -/
def rLenI (w : World) : List V → Hp → VK → Prop := fun xs H Q => ∃ (a : Addr) (S : Int → Bool) (n : Nat), xs = [.ref a] ∧ H a = some (SetO w a S n) ∧ n < scanBound ∧ Q (.int (n : Int)) H
theorem call_lenI : CallR X (.builtin "len") (rLenI X.w) := by
  intro pins s σ H xs us Q I r h
  obtain ⟨a, S, n, rfl, ha, hn, q⟩ := h
  cases r with
  | cons r1 r2 =>
  cases r2
  cases r1
  obtain ⟨o, es, ep, t, ho, hex, hd, _, _, _, _, hf, hsz, _⟩ := setO_get I ha
  refine call_len_set ho hex hd hf ?_ ?_
  · rw [hsz]
    have e : scanBound = 4096 := rfl
    omega
  · rw [hsz]
    exact ⟨.int (n : Int), H, I.tok _, ⟨_, rfl⟩, q⟩
/-- found.add(k), raw -/
theorem addI_ok {pins : List (Addr × Obj)} {s : Shared} {σ : L2.St} {H : Hp} {E : Value → Shared → Prop} {D : Addr} {S : Int → Bool} {n : Nat} {k : Int} {u : Value} {Q : Value → Shared → Prop} (I : Inv X pins σ H s) (hD : H D = some (SetO X.w D S n)) (room : n + 1 < scanBound) (r : RelV (.int k) u)
    (h : ∀ s', Inv X pins σ (upd H D (SetO X.w D (fun j => S j || decide (j = k)) (if S k = true then n else n + 1))) s' → Q .none s') : wpAny (model X.prog X.w) X.A (call (.builtin "set.add") [.ref D, u]) Q E s := by
  obtain ⟨tk, rfl⟩ := r
  refine setR_add (setO_get I hD) room fun h' sb new => ?_
  have he : ∃ u, h'.get? D = some u := by
    have ⟨o, _, _, _, ho, _⟩ := new
    exact ⟨o, ho⟩
  exact h _ (I.write (e := D) (t' := s.toks + 1) (by rw [hD]; trivial) (.inl rfl) (fun b u hb hu => (sb.2 b hb).trans hu) he (setO_new new))
/-- {elt for tg in iter if .. for tg1 in iter1 if ..}, elt whole numbers: D the new set; as tLc2 else -/
def tSc2 (w : World) (wi : TI) (g : TG) (tt : TT) (wi1 : TI) (g1 : TG) (tt1 : TT) (te : TE) (vs vs1 : List Nat) : TE := fun σ H Q => wi σ H fun J H1 => ∀ D, H1 D = none → ∃ W : Nat → Nat → Hp → Prop, (∃ m, W 0 m (upd H1 D (SetO w D (fun _ => false) 0))) ∧ ∀ i m H, W i m H →
  (J.stop i H ∧ Q (.ref D) H) ∨ (J.go i H ∧ ∃ Nx : Hp → Prop, (∀ H', Nx H' → ∃ m', m' < m ∧ W (i + 1) m' H') ∧ ∀ x H', J.yld i H x H' → g x (wipe σ vs) H' fun σ2 H2 => wipe σ2 vs = wipe σ vs ∧ tt σ2 H2 fun b H3 =>
    if b = true then wi1 σ2 H3 fun J1 H4 => ∃ W1 : Nat → Nat → Hp → Prop, (∃ m, W1 0 m H4) ∧ ∀ j k H, W1 j k H →
      (J1.stop j H ∧ Nx H) ∨ (J1.go j H ∧ ∃ Nx1 : Hp → Prop, (∀ H', Nx1 H' → ∃ k', k' < k ∧ W1 (j + 1) k' H') ∧ ∀ x H', J1.yld j H x H' → g1 x (wipe σ2 vs1) H' fun σ3 H5 => wipe σ3 vs1 = wipe σ2 vs1 ∧ tt1 σ3 H5 fun b H6 =>
        if b = true then te σ3 H6 fun y H7 => ∃ (c : Int) (S : Int → Bool) (n : Nat), y = .int c ∧ H7 D = some (SetO w D S n) ∧ n + 1 < scanBound ∧ Nx1 (upd H7 D (SetO w D (fun j => S j || decide (j = c)) (if S c = true then n else n + 1))) else Nx1 H6)
    else Nx H3)
theorem pe_sc2 {elt tg iter tg1 iter1 : Expr} {ifs ifs1 : List Expr} {scope : Scope} {own : List (PySem.Str × Nat)} {vs1 : List Nat} {pos : Pos} {wi wi1 : TI} {g g1 : TG} {tt tt1 : TT} {te : TE} (hc : X.calm = true) (hN : X.N.Nodup) (hi : PI X tg iter wi) (ok : BlkOk X.N X.env.scope scope own) (hv : ∀ i ∈ vs1, i ∈ own.map (·.2))
    (hg : ∀ (s : Shared) (H : Hp) (C : Addr) (cl : List (PySem.Str × Addr)) (fp : List Addr), PG (X.blk s H scope (compEnvC scope cl C X.env) fp) tg g)
    (ht : ∀ (s : Shared) (H : Hp) (C : Addr) (cl : List (PySem.Str × Addr)) (fp : List Addr), PTs (X.blk s H scope (compEnvC scope cl C X.env) fp) ifs tt)
    (hi1 : ∀ (s : Shared) (H : Hp) (C : Addr) (cl : List (PySem.Str × Addr)) (fp : List Addr), PI (X.blk s H scope (compEnvC scope cl C X.env) fp) tg1 iter1 wi1)
    (hg1 : ∀ (s : Shared) (H : Hp) (C : Addr) (cl : List (PySem.Str × Addr)) (fp : List Addr), PG (X.blk s H scope (compEnvC scope cl C X.env) fp) tg1 g1)
    (ht1 : ∀ (s : Shared) (H : Hp) (C : Addr) (cl : List (PySem.Str × Addr)) (fp : List Addr), PTs (X.blk s H scope (compEnvC scope cl C X.env) fp) ifs1 tt1)
    (he : ∀ (s : Shared) (H : Hp) (C : Addr) (cl : List (PySem.Str × Addr)) (fp : List Addr), PE (X.blk s H scope (compEnvC scope cl C X.env) fp) elt te) (hs : ∀ x, foldedSetIterable iter X.env x = pure x := by intro _; rfl) (hs1 : ∀ env x, foldedSetIterable iter1 env x = pure x := by intro _ _; rfl) :
    PE X (.SetComp elt [⟨tg, iter, ifs, 0⟩, ⟨tg1, iter1, ifs1, 0⟩] scope pos) (tSc2 X.w wi g tt wi1 g1 tt1 te (own.map (·.2)) vs1) := by
  refine ⟨fun pins s σ H Q I h => ?_⟩
  rw [PpSet.eval_SetComp]
  have free : ∀ y ∈ scope.names, y.2 = .free → ∃ c, X.env.cells.lookup y.1 = some c := fun y hy e => (ok.free y hy e).elim (fun k => I.ok.has _ (.inl k)) (fun k => I.ok.has _ (.inr k))
  refine wpAny_comprehension_free (use := Option.none) rfl hs (closure_ok free) ok.kind (fun y hy e => by rw [ok.uniq y hy, e]) (thn (hi.run pins s σ H _ I h) fun xv s1 hx => thn hx fun itv s2 h2 => ?_)
  obtain ⟨it, fp, tn, J, H2, rfl, I2, T, st2, f2, q⟩ := h2
  refine PpSet.newSet_ok (newEnv_comp ?_)
  generalize hD : s2.heap.objs.size = D
  have hDn : H2 D = none := I2.hok.fresh (Nat.le_of_eq hD)
  obtain ⟨W, ⟨m0, w0⟩, turn⟩ := q D hDn
  -- the empty set stands
  generalize hs3 : ({ s2 with heap := s2.heap.push { cls := .type "set", dict := none, data := .set #[] 0 (.fresh 0 0 (!X.w.params.followText "set-order")) } } : Shared) = s3
  have h3 : s3.heap = s2.heap.push { cls := .type "set", dict := none, data := .set #[] 0 (.fresh 0 0 (!X.w.params.followText "set-order")) } := by rw [← hs3]
  have I3 : Inv X pins σ (upd H2 D (SetO X.w D (fun _ => false) 0)) s3 := by
    subst hs3 hD
    exact I2.laid (t' := s2.toks) (fun b o e => Heap.get?_push_of_some _ e) (Nat.le_refl _) (setO_new (setR_fresh X.w))
  have old : ∀ b o, s2.heap.get? b = some o → s3.heap.get? b = some o := fun b o e => by rw [h3]; exact Heap.get?_push_of_some _ e
  have f3 : ∀ b ∈ fp, FpOk X pins (upd H2 D (SetO X.w D (fun _ => false) 0)) b ∧ b < s3.heap.objs.size := fun b hb => by
    obtain ⟨o, e, _⟩ := T.obj _ _ st2 b hb
    have hlt := Heap.lt_size e
    refine ⟨⟨?_, (f2 b hb).2⟩, Heap.lt_size (old _ _ e)⟩
    rw [upd_ne (by rw [← hD]; exact Nat.ne_of_lt hlt)]
    exact (f2 b hb).1
  have st3 : tn 0 s3.heap := T.keep _ _ _ st2 fun b _ o e => old b o e
  have I4 := block_start I3 ok hN f3
  have nfp : ∀ b ∈ fp, (upd H2 D (SetO X.w D (fun _ => false) 0)) b = none := fun b hb => (f3 b hb).1.1
  generalize hH3 : upd H2 D (SetO X.w D (fun _ => false) 0) = H3 at I3 I4 w0 nfp f3
  have kit := fun (Z : (s : Shared) → (H : Hp) → (C : Addr) → (cl : List (PySem.Str × Addr)) → (fp : List Addr) → Prop) (z : ∀ s H C cl fp, Z s H C cl fp) => z s3 H3 s3.heap.objs.size (cellsFrom (s3.heap.objs.size + 1) scope.names (cloFrom X.env.cells scope.names [])) fp
  have pg := kit _ hg
  have pt := kit _ ht
  have pi1 := kit _ hi1
  have pg1 := kit _ hg1
  have pt1 := kit _ ht1
  have pe := kit _ he
  clear kit
  show codeAny _ _ (.compStart (sc2E elt tg iter tg1 iter1 ifs ifs1 scope pos) 0 (.ref it) (.ref D) (compEnvC scope (cellsFrom (s3.heap.objs.size + 1) scope.names (cloFrom X.env.cells scope.names [])) s3.heap.objs.size X.env)) (compPost (model X.prog X.w) X.A X.xe Option.none _ (.ref D) s3.heap.objs.size) { s3 with heap := pushCells (s3.heap.push { cls := .type "dict", data := .dict #[] }) scope.names }
  generalize hce : compEnvC scope (cellsFrom (s3.heap.objs.size + 1) scope.names (cloFrom X.env.cells scope.names [])) s3.heap.objs.size X.env = ce at I4 pg pt pe pi1 pg1 pt1 ⊢
  have cL : ce.locals = s3.heap.objs.size := by subst hce; rfl
  generalize hs4 : ({ s3 with heap := pushCells (s3.heap.push { cls := .type "dict", data := .dict #[] }) scope.names } : Shared) = s4 at I4 ⊢
  have st4 : tn 0 s4.heap := T.keep _ _ _ st3 fun b _ o e => by rw [← hs4]; exact pushCells_keeps _ _ _ _ (Heap.get?_push_of_some _ e)
  have stat : ∀ {σ' : L2.St} {H' : Hp} {s' : Shared}, Inv (X.blk s3 H3 scope ce fp) [] σ' H' s' → (∀ b ∈ fp, H' b = none) → ∀ b ∈ fp, FpOk (X.blk s3 H3 scope ce fp) [] H' b := fun {σ' H' s'} I' hn b hb =>
    ⟨hn b hb, (I'.ok.exf b hb).1, I'.ok.exfs b hb, .inl hb, fun x c e => (I'.ok.exf b hb).2 x c e, fun p hp => absurd (show p ∈ ([] : List (Addr × Obj)) ++ [] from hp) (by simp)⟩
  have loop : codeAny (model X.prog X.w) X.A (.compLoop (sc2E elt tg iter tg1 iter1 ifs ifs1 scope pos) 0 (.ref it) (.ref D) ce) (compPost (model X.prog X.w) X.A X.xe Option.none (fun v s' => ∃ y H', Inv X pins σ H' s' ∧ RelV y v ∧ Q y H') (.ref D) s3.heap.objs.size) s4 := by
    refine sc2_loopA (hs1 ce) (fun n s' => ∃ i H', Inv (X.blk s3 H3 scope ce fp) [] (wipe σ (own.map (·.2))) H' s' ∧ tn i s'.heap ∧ (∀ b ∈ fp, H' b = none) ∧ W i n H') ?_ m0 ⟨0, H3, I4, st4, nfp, w0⟩
    rintro n s5 ⟨i, H5, I5, st5, n5, w5⟩
    rcases turn i n H5 w5 with ⟨stop, qq⟩ | ⟨go, Nx, hNx, step⟩
    · refine thnF (T.done (X.blk s3 H3 scope ce fp) rfl rfl rfl hc i [] s5 _ H5 (fun _ _ => False) I5 (stat I5 n5) st5 stop) fun r s6 ⟨hr, I6⟩ => ?_
      subst hr
      have I7 : Inv X pins σ H5 s6 := I3.call' (ch := fp) I6.os I6.base I6.hok I6.bare fun b hb => ⟨(f3 b hb).1.2.2.2.1, (f3 b hb).1.2.1, (f3 b hb).1.2.2.2.2.1, (f3 b hb).1.2.2.2.2.2⟩
      have nC : H5 s3.heap.objs.size = none := by
        have z : H5 ce.locals = none := I6.free
        rwa [cL] at z
      obtain ⟨m, hn, _⟩ := I6.loc
      have hn : s6.heap.Ns ce.locals m := hn
      rw [cL] at hn
      obtain ⟨f0, g1, g2, g3, g4, g5⟩ := I3.fpOk (Nat.le_refl _) nC
      exact ⟨m, hn, fun h'' sb => ⟨.ref D, H5, I7.turned (t' := s6.toks) (fun b o hb e => (sb.2 b hb).trans e) f0 g1 g3 g4 g5, rfl, qq⟩⟩
    · refine thnF (T.item (X.blk s3 H3 scope ce fp) rfl rfl rfl hc i [] s5 _ H5 (fun _ _ => False) I5 (stat I5 n5) st5 go) fun r s6 ⟨u, hr, h6⟩ => ?_
      subst hr
      refine thnF h6 fun _ s7 ⟨x, H7, I7, r7, y7, st7, n7⟩ => ?_
      refine thnF (pg.run _ s7 _ H7 x u _ (I7.pinned (stat I7 n7) (T.obj _ _ st7)) r7 (step x H7 y7)) fun _ s8 ⟨σ8, H8, I8, hw8, q8⟩ => ?_
      refine thnF (pt.run _ s8 σ8 H8 _ I8 q8) fun b s9 ⟨H9, I9, q9⟩ => ?_
      have fin : ∀ {σ9 : L2.St} {s' : Shared} {H' : Hp}, Inv (X.blk s3 H3 scope ce fp) ([] ++ pinsAt fp s7.heap) σ9 H' s' → (wipe σ (own.map (·.2))).length = σ9.length → (∀ (j : Nat) v, (wipe σ (own.map (·.2)))[j]? = some (some v) → σ9[j]? = some (some v)) → Nx H' →
          ∃ m, m < n ∧ ∃ i H', Inv (X.blk s3 H3 scope ce fp) [] (wipe σ (own.map (·.2))) H' s' ∧ tn i s'.heap ∧ (∀ b ∈ fp, H' b = none) ∧ W i m H' := by
        intro σ9 s' H' I' hl hk nx
        obtain ⟨m', hm, w'⟩ := hNx H' nx
        have held : ∀ b ∈ fp, ∀ o, s7.heap.get? b = some o → s'.heap.get? b = some o ∧ H' b = none := fun b hb o e => by
          have z := I'.pin (b, o) (List.mem_append_right _ (List.mem_append_right _ (mem_pinsAt hb e)))
          exact ⟨z.1, z.2.1⟩
        refine ⟨m', hm, i + 1, H', (I'.unpinned (pins := [])).weak hl hk, T.keep _ _ _ st7 fun b hb o e => (held b hb o e).1, fun b hb => ?_, w'⟩
        obtain ⟨o, e, _⟩ := T.obj _ _ st7 b hb
        exact (held b hb o e).2
      have hl8 : (wipe σ (own.map (·.2))).length = σ8.length := by rw [← hw8, wipe_length]
      have hk8 : ∀ (j : Nat) v, (wipe σ (own.map (·.2)))[j]? = some (some v) → σ8[j]? = some (some v) := fun j v e => by
        rw [← hw8] at e
        exact (wipe_some e).1
      have hk9 : ∀ (j : Nat) v, (wipe σ (own.map (·.2)))[j]? = some (some v) → (wipe σ8 vs1)[j]? = some (some v) := fun j v e => by
        rw [← hw8] at e
        obtain ⟨e1, e2⟩ := wipe_some e
        rw [wipe_out fun z => e2 (hv j z)]
        exact e1
      cases b with
      | false =>
        rw [if_neg Bool.false_ne_true] at q9 ⊢
        exact fin I9 hl8 hk8 q9
      | true =>
        rw [if_pos rfl] at q9 ⊢
        refine thnF (pi1.run _ s9 σ8 H9 _ I9 q9) fun xv s10 hx => thnF hx fun itv s11 h11 => ?_
        obtain ⟨it1, fp1, tn1, J1, H11, rfl, I11, T1, st11, f11, W1, ⟨m1, w1⟩, turn1⟩ := h11
        have stat1 : ∀ {H' : Hp}, (∀ b ∈ fp1, H' b = none) → ∀ b ∈ fp1, FpOk (X.blk s3 H3 scope ce fp) ([] ++ pinsAt fp s7.heap) H' b := fun hn b hb => ⟨hn b hb, (f11 b hb).2⟩
        have loop1 : codeAny (model X.prog X.w) X.A (.compLoop (sc2E elt tg iter tg1 iter1 ifs ifs1 scope pos) 1 (.ref it1) (.ref D) ce)
            (fun r s' => match r with
              | .ok _ => ∃ m, m < n ∧ ∃ i H', Inv (X.blk s3 H3 scope ce fp) [] (wipe σ (own.map (·.2))) H' s' ∧ tn i s'.heap ∧ (∀ b ∈ fp, H' b = none) ∧ W i m H'
              | .error _ => False) s11 := by
          refine sc2_loopB (fun k s' => ∃ j H', Inv (X.blk s3 H3 scope ce fp) ([] ++ pinsAt fp s7.heap) (wipe σ8 vs1) H' s' ∧ tn1 j s'.heap ∧ (∀ b ∈ fp1, H' b = none) ∧ W1 j k H') ?_ m1 ⟨0, H11, I11.weak (wipe_length _ _) (fun j v e => (wipe_some e).1), st11, fun b hb => (f11 b hb).1, w1⟩
          rintro k s12 ⟨j, H12, I12, st12, n12, w12⟩
          rcases turn1 j k H12 w12 with ⟨stop1, nx1⟩ | ⟨go1, Nx1, hNx1, step1⟩
          · refine thnF (T1.done (X.blk s3 H3 scope ce fp) rfl rfl rfl hc j _ s12 (wipe σ8 vs1) H12 (fun _ _ => False) I12 (stat1 n12) st12 stop1) fun r s13 ⟨hr, I13⟩ => ?_
            subst hr
            exact fin I13 (hl8.trans (wipe_length σ8 vs1).symm) hk9 nx1
          · refine thnF (T1.item (X.blk s3 H3 scope ce fp) rfl rfl rfl hc j _ s12 (wipe σ8 vs1) H12 (fun _ _ => False) I12 (stat1 n12) st12 go1) fun r s13 ⟨u1, hr, h13⟩ => ?_
            subst hr
            refine thnF h13 fun _ s14 ⟨x1, H14, I14, r14, y14, st14, n14⟩ => ?_
            refine thnF (pg1.run _ s14 (wipe σ8 vs1) H14 x1 u1 _ (I14.pinned (stat1 n14) (T1.obj _ _ st14)) r14 (step1 x1 H14 y14)) fun _ s15 ⟨σ15, H15, I15, hw15, q15⟩ => ?_
            refine thnF (pt1.run _ s15 σ15 H15 _ I15 q15) fun b1 s16 ⟨H16, I16, q16⟩ => ?_
            have fin1 : ∀ {s' : Shared} {H' : Hp}, Inv (X.blk s3 H3 scope ce fp) (([] ++ pinsAt fp s7.heap) ++ pinsAt fp1 s14.heap) σ15 H' s' → Nx1 H' → ∃ m, m < k ∧ ∃ j H', Inv (X.blk s3 H3 scope ce fp) ([] ++ pinsAt fp s7.heap) (wipe σ8 vs1) H' s' ∧ tn1 j s'.heap ∧ (∀ b ∈ fp1, H' b = none) ∧ W1 j m H' := by
              intro s' H' I' nx
              obtain ⟨m', hm, w'⟩ := hNx1 H' nx
              have held : ∀ b ∈ fp1, ∀ o, s14.heap.get? b = some o → s'.heap.get? b = some o ∧ H' b = none := fun b hb o e => by
                have z := I'.pin (b, o) (List.mem_append_right _ (List.mem_append_right _ (mem_pinsAt hb e)))
                exact ⟨z.1, z.2.1⟩
              refine ⟨m', hm, j + 1, H', I'.unpinned.weak (by rw [← hw15, wipe_length]) (fun j v e => by rw [← hw15] at e; exact (wipe_some e).1), T1.keep _ _ _ st14 fun b hb o e => (held b hb o e).1, fun b hb => ?_, w'⟩
              obtain ⟨o, e, _⟩ := T1.obj _ _ st14 b hb
              exact (held b hb o e).2
            cases b1 with
            | false =>
              rw [if_neg Bool.false_ne_true] at q16 ⊢
              exact fin1 I16 q16
            | true =>
              rw [if_pos rfl] at q16 ⊢
              refine thnF (pe.run _ s16 σ15 H16 _ I16 q16) fun z s17 ⟨yv, H17, I17, r17, c, S, n', ey, hD17, hz17, nx⟩ => ?_
              subst ey
              exact addI_ok (X := X.blk s3 H3 scope ce fp) I17 hD17 hz17 r17 fun s18 I18 => fin1 I18 nx
        exact sc2_start 1 (.inr rfl) loop1 (T1.self X.A 0 _ _ _ st11 loop1)
  exact sc2_start 0 (.inl rfl) loop (T.self X.A 0 _ _ _ st4 loop)
end
end Wd
end
section
set_option Elab.async false
set_option linter.all false
set_option maxRecDepth 100000
set_option maxHeartbeats 2000000
set_option pp.maxSteps 900
/-! A set of whole numbers made by a comprehension of one clause. -/
namespace Wd
open PySem PySem.Spec PyProof.Rows L2
section
variable {X : Cx}
/-- {elt for tg in iter if ..}, elt whole numbers: D the new set -/
def tSc1 (w : World) (wi : TI) (g : TG) (tt : TT) (te : TE) (vs : List Nat) : TE := fun σ H Q => wi σ H fun J H1 => ∀ D, H1 D = none → ∃ W : Nat → Nat → Hp → Prop, (∃ m, W 0 m (upd H1 D (SetO w D (fun _ => false) 0))) ∧ ∀ i m H, W i m H →
  (J.stop i H ∧ Q (.ref D) H) ∨ (J.go i H ∧ ∃ Nx : Hp → Prop, (∀ H', Nx H' → ∃ m', m' < m ∧ W (i + 1) m' H') ∧ ∀ x H', J.yld i H x H' → g x (wipe σ vs) H' fun σ2 H2 => wipe σ2 vs = wipe σ vs ∧ tt σ2 H2 fun b H3 =>
    if b = true then te σ2 H3 fun y H4 => ∃ (c : Int) (S : Int → Bool) (n : Nat), y = .int c ∧ H4 D = some (SetO w D S n) ∧ n + 1 < scanBound ∧ Nx (upd H4 D (SetO w D (fun j => S j || decide (j = c)) (if S c = true then n else n + 1))) else Nx H3)
theorem pe_sc1 {elt tg iter : Expr} {ifs : List Expr} {scope : Scope} {own : List (PySem.Str × Nat)} {pos : Pos} {wi : TI} {g : TG} {tt : TT} {te : TE} (hc : X.calm = true) (hN : X.N.Nodup) (hi : PI X tg iter wi) (ok : BlkOk X.N X.env.scope scope own)
    (hg : ∀ (s : Shared) (H : Hp) (C : Addr) (cl : List (PySem.Str × Addr)) (fp : List Addr), PG (X.blk s H scope (compEnvC scope cl C X.env) fp) tg g)
    (ht : ∀ (s : Shared) (H : Hp) (C : Addr) (cl : List (PySem.Str × Addr)) (fp : List Addr), PTs (X.blk s H scope (compEnvC scope cl C X.env) fp) ifs tt)
    (he : ∀ (s : Shared) (H : Hp) (C : Addr) (cl : List (PySem.Str × Addr)) (fp : List Addr), PE (X.blk s H scope (compEnvC scope cl C X.env) fp) elt te) (hs : ∀ x, foldedSetIterable iter X.env x = pure x := by intro _; rfl) :
    PE X (.SetComp elt [⟨tg, iter, ifs, 0⟩] scope pos) (tSc1 X.w wi g tt te (own.map (·.2))) := by
  refine ⟨fun pins s σ H Q I h => ?_⟩
  rw [PpSet.eval_SetComp]
  have free : ∀ y ∈ scope.names, y.2 = .free → ∃ c, X.env.cells.lookup y.1 = some c := fun y hy e => (ok.free y hy e).elim (fun k => I.ok.has _ (.inl k)) (fun k => I.ok.has _ (.inr k))
  refine wpAny_comprehension_free (use := Option.none) rfl hs (closure_ok free) ok.kind (fun y hy e => by rw [ok.uniq y hy, e]) (thn (hi.run pins s σ H _ I h) fun xv s1 hx => thn hx fun itv s2 h2 => ?_)
  obtain ⟨it, fp, tn, J, H2, rfl, I2, T, st2, f2, q⟩ := h2
  refine PpSet.newSet_ok (newEnv_comp ?_)
  generalize hD : s2.heap.objs.size = D
  have hDn : H2 D = none := I2.hok.fresh (Nat.le_of_eq hD)
  obtain ⟨W, ⟨m0, w0⟩, turn⟩ := q D hDn
  generalize hs3 : ({ s2 with heap := s2.heap.push { cls := .type "set", dict := none, data := .set #[] 0 (.fresh 0 0 (!X.w.params.followText "set-order")) } } : Shared) = s3
  have h3 : s3.heap = s2.heap.push { cls := .type "set", dict := none, data := .set #[] 0 (.fresh 0 0 (!X.w.params.followText "set-order")) } := by rw [← hs3]
  have I3 : Inv X pins σ (upd H2 D (SetO X.w D (fun _ => false) 0)) s3 := by
    subst hs3 hD
    exact I2.laid (t' := s2.toks) (fun b o e => Heap.get?_push_of_some _ e) (Nat.le_refl _) (setO_new (setR_fresh X.w))
  have old : ∀ b o, s2.heap.get? b = some o → s3.heap.get? b = some o := fun b o e => by rw [h3]; exact Heap.get?_push_of_some _ e
  have f3 : ∀ b ∈ fp, FpOk X pins (upd H2 D (SetO X.w D (fun _ => false) 0)) b ∧ b < s3.heap.objs.size := fun b hb => by
    obtain ⟨o, e, _⟩ := T.obj _ _ st2 b hb
    have hlt := Heap.lt_size e
    refine ⟨⟨?_, (f2 b hb).2⟩, Heap.lt_size (old _ _ e)⟩
    rw [upd_ne (by rw [← hD]; exact Nat.ne_of_lt hlt)]
    exact (f2 b hb).1
  have st3 : tn 0 s3.heap := T.keep _ _ _ st2 fun b _ o e => old b o e
  have I4 := block_start I3 ok hN f3
  have nfp : ∀ b ∈ fp, (upd H2 D (SetO X.w D (fun _ => false) 0)) b = none := fun b hb => (f3 b hb).1.1
  generalize hH3 : upd H2 D (SetO X.w D (fun _ => false) 0) = H3 at I3 I4 w0 nfp f3
  have kit := fun (Z : (s : Shared) → (H : Hp) → (C : Addr) → (cl : List (PySem.Str × Addr)) → (fp : List Addr) → Prop) (z : ∀ s H C cl fp, Z s H C cl fp) => z s3 H3 s3.heap.objs.size (cellsFrom (s3.heap.objs.size + 1) scope.names (cloFrom X.env.cells scope.names [])) fp
  have pg := kit _ hg
  have pt := kit _ ht
  have pe := kit _ he
  clear kit
  show codeAny _ _ (.compStart (.SetComp elt [⟨tg, iter, ifs, 0⟩] scope pos) 0 (.ref it) (.ref D) (compEnvC scope (cellsFrom (s3.heap.objs.size + 1) scope.names (cloFrom X.env.cells scope.names [])) s3.heap.objs.size X.env)) (compPost (model X.prog X.w) X.A X.xe Option.none _ (.ref D) s3.heap.objs.size) { s3 with heap := pushCells (s3.heap.push { cls := .type "dict", data := .dict #[] }) scope.names }
  generalize hce : compEnvC scope (cellsFrom (s3.heap.objs.size + 1) scope.names (cloFrom X.env.cells scope.names [])) s3.heap.objs.size X.env = ce at I4 pg pt pe ⊢
  have cL : ce.locals = s3.heap.objs.size := by subst hce; rfl
  generalize hs4 : ({ s3 with heap := pushCells (s3.heap.push { cls := .type "dict", data := .dict #[] }) scope.names } : Shared) = s4 at I4 ⊢
  have st4 : tn 0 s4.heap := T.keep _ _ _ st3 fun b _ o e => by rw [← hs4]; exact pushCells_keeps _ _ _ _ (Heap.get?_push_of_some _ e)
  have stat : ∀ {σ' : L2.St} {H' : Hp} {s' : Shared}, Inv (X.blk s3 H3 scope ce fp) [] σ' H' s' → (∀ b ∈ fp, H' b = none) → ∀ b ∈ fp, FpOk (X.blk s3 H3 scope ce fp) [] H' b := fun {σ' H' s'} I' hn b hb =>
    ⟨hn b hb, (I'.ok.exf b hb).1, I'.ok.exfs b hb, .inl hb, fun x c e => (I'.ok.exf b hb).2 x c e, fun p hp => absurd (show p ∈ ([] : List (Addr × Obj)) ++ [] from hp) (by simp)⟩
  have loop : codeAny (model X.prog X.w) X.A (.compLoop (.SetComp elt [⟨tg, iter, ifs, 0⟩] scope pos) 0 (.ref it) (.ref D) ce) (compPost (model X.prog X.w) X.A X.xe Option.none (fun v s' => ∃ y H', Inv X pins σ H' s' ∧ RelV y v ∧ Q y H') (.ref D) s3.heap.objs.size) s4 := by
    refine PpSet.compLoopS_any (fun n s' => ∃ i H', Inv (X.blk s3 H3 scope ce fp) [] (wipe σ (own.map (·.2))) H' s' ∧ tn i s'.heap ∧ (∀ b ∈ fp, H' b = none) ∧ W i n H') ?_ m0 ⟨0, H3, I4, st4, nfp, w0⟩
    rintro n s5 ⟨i, H5, I5, st5, n5, w5⟩
    rcases turn i n H5 w5 with ⟨stop, qq⟩ | ⟨go, Nx, hNx, step⟩
    · refine thnF (T.done (X.blk s3 H3 scope ce fp) rfl rfl rfl hc i [] s5 _ H5 (fun _ _ => False) I5 (stat I5 n5) st5 stop) fun r s6 ⟨hr, I6⟩ => ?_
      subst hr
      have I7 : Inv X pins σ H5 s6 := I3.call' (ch := fp) I6.os I6.base I6.hok I6.bare fun b hb => ⟨(f3 b hb).1.2.2.2.1, (f3 b hb).1.2.1, (f3 b hb).1.2.2.2.2.1, (f3 b hb).1.2.2.2.2.2⟩
      have nC : H5 s3.heap.objs.size = none := by
        have z : H5 ce.locals = none := I6.free
        rwa [cL] at z
      obtain ⟨m, hn, _⟩ := I6.loc
      have hn : s6.heap.Ns ce.locals m := hn
      rw [cL] at hn
      obtain ⟨f0, g1, g2, g3, g4, g5⟩ := I3.fpOk (Nat.le_refl _) nC
      exact ⟨m, hn, fun h'' sb => ⟨.ref D, H5, I7.turned (t' := s6.toks) (fun b o hb e => (sb.2 b hb).trans e) f0 g1 g3 g4 g5, rfl, qq⟩⟩
    · refine thnF (T.item (X.blk s3 H3 scope ce fp) rfl rfl rfl hc i [] s5 _ H5 (fun _ _ => False) I5 (stat I5 n5) st5 go) fun r s6 ⟨u, hr, h6⟩ => ?_
      subst hr
      refine thnF h6 fun _ s7 ⟨x, H7, I7, r7, y7, st7, n7⟩ => ?_
      refine thnF (pg.run _ s7 _ H7 x u _ (I7.pinned (stat I7 n7) (T.obj _ _ st7)) r7 (step x H7 y7)) fun _ s8 ⟨σ8, H8, I8, hw8, q8⟩ => ?_
      refine thnF (pt.run _ s8 σ8 H8 _ I8 q8) fun b s9 ⟨H9, I9, q9⟩ => ?_
      have fin : ∀ {s' : Shared} {H' : Hp}, Inv (X.blk s3 H3 scope ce fp) ([] ++ pinsAt fp s7.heap) σ8 H' s' → Nx H' → ∃ m, m < n ∧ ∃ i H', Inv (X.blk s3 H3 scope ce fp) [] (wipe σ (own.map (·.2))) H' s' ∧ tn i s'.heap ∧ (∀ b ∈ fp, H' b = none) ∧ W i m H' := by
        intro s' H' I' nx
        obtain ⟨m', hm, w'⟩ := hNx H' nx
        have held : ∀ b ∈ fp, ∀ o, s7.heap.get? b = some o → s'.heap.get? b = some o ∧ H' b = none := fun b hb o e => by
          have z := I'.pin (b, o) (List.mem_append_right _ (List.mem_append_right _ (mem_pinsAt hb e)))
          exact ⟨z.1, z.2.1⟩
        refine ⟨m', hm, i + 1, H', (I'.unpinned (pins := [])).weak (by rw [← hw8, wipe_length]) (fun j v e => by rw [← hw8] at e; exact (wipe_some e).1), T.keep _ _ _ st7 fun b hb o e => (held b hb o e).1, fun b hb => ?_, w'⟩
        obtain ⟨o, e, _⟩ := T.obj _ _ st7 b hb
        exact (held b hb o e).2
      cases b with
      | false =>
        simp only [Bool.false_eq_true, if_false] at q9 ⊢
        exact fin I9 q9
      | true =>
        simp only [if_true] at q9 ⊢
        refine thnF (pe.run _ s9 σ8 H9 _ I9 q9) fun z s10 ⟨yv, H10, I10, r10, c, S, n', ey, hD10, hz10, nx⟩ => ?_
        subst ey
        exact addI_ok (X := X.blk s3 H3 scope ce fp) I10 hD10 hz10 r10 fun s11 I11 => fin I11 nx
  exact PpSet.codeAny_compStart_set loop (T.self X.A 0 _ _ _ st4 loop)
theorem pe_sc1P {w : World} (hw : X.w = w) {elt tg iter : Expr} {ifs : List Expr} {scope : Scope} {own : List (PySem.Str × Nat)} {pos : Pos} {wi : TI} {g : TG} {tt : TT} {te : TE} (hc : X.calm = true) (hN : X.N.Nodup) (hi : PI X tg iter wi) (ok : BlkOk X.N X.env.scope scope own)
    (hg : ∀ (s : Shared) (H : Hp) (C : Addr) (cl : List (PySem.Str × Addr)) (fp : List Addr), PG (X.blk s H scope (compEnvC scope cl C X.env) fp) tg g)
    (ht : ∀ (s : Shared) (H : Hp) (C : Addr) (cl : List (PySem.Str × Addr)) (fp : List Addr), PTs (X.blk s H scope (compEnvC scope cl C X.env) fp) ifs tt)
    (he : ∀ (s : Shared) (H : Hp) (C : Addr) (cl : List (PySem.Str × Addr)) (fp : List Addr), PE (X.blk s H scope (compEnvC scope cl C X.env) fp) elt te) (hs : ∀ x, foldedSetIterable iter X.env x = pure x := by intro _; rfl) :
    PE X (.SetComp elt [⟨tg, iter, ifs, 0⟩] scope pos) (tSc1 w wi g tt te (own.map (·.2))) := by
  subst hw
  exact pe_sc1 hc hN hi ok hg ht he hs
end
section
variable {J : It} {n : Nat} {G : Hp → Prop} {Y : Nat → Hp → V → Hp → Prop}
theorem sc1_it {w : World} (k : Walk J n G Y) {g : TG} {tt : TT} {te : TE} {vs : List Nat} {σ : L2.St} {H1 : Hp} {D : Addr} {Qd : Hp → Prop} (Pv : Nat → Hp → Prop) (h0 : Pv 0 (upd H1 D (SetO w D (fun _ => false) 0))) (hG : ∀ i H, i ≤ n → Pv i H → G H)
    (hs : ∀ i x H H', i < n → Pv i H → Y i H x H' → g x (wipe σ vs) H' fun σ2 H2 => wipe σ2 vs = wipe σ vs ∧ tt σ2 H2 fun b H3 =>
      if b = true then te σ2 H3 fun y H4 => ∃ (c : Int) (S : Int → Bool) (n : Nat), y = .int c ∧ H4 D = some (SetO w D S n) ∧ n + 1 < scanBound ∧ Pv (i + 1) (upd H4 D (SetO w D (fun j => S j || decide (j = c)) (if S c = true then n else n + 1))) else Pv (i + 1) H3) (hd : ∀ H, Pv n H → Qd H) :
    ∃ W : Nat → Nat → Hp → Prop, (∃ m, W 0 m (upd H1 D (SetO w D (fun _ => false) 0))) ∧ ∀ i m H, W i m H →
      (J.stop i H ∧ Qd H) ∨ (J.go i H ∧ ∃ Nx : Hp → Prop, (∀ H', Nx H' → ∃ m', m' < m ∧ W (i + 1) m' H') ∧ ∀ x H', J.yld i H x H' → g x (wipe σ vs) H' fun σ2 H2 => wipe σ2 vs = wipe σ vs ∧ tt σ2 H2 fun b H3 =>
        if b = true then te σ2 H3 fun y H4 => ∃ (c : Int) (S : Int → Bool) (n : Nat), y = .int c ∧ H4 D = some (SetO w D S n) ∧ n + 1 < scanBound ∧ Nx (upd H4 D (SetO w D (fun j => S j || decide (j = c)) (if S c = true then n else n + 1))) else Nx H3) := by
  refine ⟨fun i m H => m = n - i ∧ i ≤ n ∧ Pv i H, ⟨n, by simp, Nat.zero_le _, h0⟩, ?_⟩
  rintro i m H ⟨rfl, hi, p⟩
  have q := hG i H hi p
  by_cases hlt : i < n
  · exact .inr ⟨k.goes i H hlt q, Pv (i + 1), fun H' p' => ⟨n - (i + 1), by omega, rfl, hlt, p'⟩, fun x H' y => hs i x H H' hlt p (k.yields i H x H' hlt q y)⟩
  · have e : i = n := by omega
    subst e
    exact .inl ⟨k.stops H q, hd H p⟩
end
/-- a if t else b as a test -/
def tIfT (t ta tb : TT) : TT := fun σ H Q => t σ H fun c H1 => if c = true then ta σ H1 Q else tb σ H1 Q
theorem pt_ifE {X : Cx} {a b c : Expr} {pos : Pos} {t ta tb : TT} (hc : PT X c t) (ha : PT X a ta) (hb : PT X b tb) : PT X (.IfExp c a b pos) (tIfT t ta tb) := by
  refine ⟨fun pins s σ H Q I h => ?_⟩
  refine isTrue_IfExp (thn (hc.run pins s σ H _ I h) fun d s1 ⟨H1, I1, q1⟩ => ?_)
  cases d with
  | true => exact ha.run pins s1 σ H1 Q I1 q1
  | false => exact hb.run pins s1 σ H1 Q I1 q1
end Wd
end
section
set_option Elab.async false
set_option linter.all false
set_option maxRecDepth 100000
set_option maxHeartbeats 2000000
set_option pp.maxSteps 900
/-! ### pieces and sets of days (pure), and as they lie in the heap -/
namespace Wd
open PySem PySem.Spec PyProof.Rows L2 Wt TL NumText
inductive Kd | one | up | dn | ev
  deriving DecidableEq
def Kd.w : Kd → Str
  | .one => "one"
  | .up => "up"
  | .dn => "down"
  | .ev => "every"
theorem Kd.w_inj {a b : Kd} (h : a.w = b.w) : a = b := by
  cases a <;> cases b <;> first | rfl | exact absurd h (by decide)
structure Pc where
  k : Kd
  a : Int
  s : Int
/-- its members -/
def Pc.vals (p : Pc) : List V := if p.k = .one then [.str "one", .int p.a] else [.str p.k.w, .int p.a, .int p.s]
def Pc.good (p : Pc) : Prop := p.k ≠ .one → 1 ≤ p.s
theorem Pc.okP (p : Pc) (h : p.good) : okP p.vals = true := by
  unfold Pc.vals
  cases hk : p.k with
  | one =>
    rw [if_pos rfl]
    rfl
  | up | dn | ev =>
    rw [if_neg (by decide)]
    have g := h (by rw [hk]; decide)
    refine (show Wd.okP [.str _, .int p.a, .int p.s] = (decide (1 ≤ p.s)) from ?_).trans (decide_eq_true g)
    simp only [Kd.w]
    rfl
/-- whether a day lies in a piece -/
def inP (p : Pc) (d : Int) : Bool := match p.k with
  | .one => decide (d = p.a)
  | .up => decide ((d - p.a) % p.s = 0) && decide (p.a ≤ d)
  | .dn => decide ((d - p.a) % p.s = 0) && decide (d ≤ p.a)
  | .ev => decide ((d - p.a) % p.s = 0)
def inPs (ps : List Pc) (d : Int) : Bool := ps.any fun p => inP p d
/-- whether x goes farther than b -/
def fartherK (k : Kd) (x b : Int) : Bool := if k = .dn then decide (b < x) else decide (x < b)
def bestStep (k : Kd) (s r : Int) (o : Option Int) (p : Pc) : Option Int :=
  if p.k = k ∧ p.s = s ∧ p.a % p.s = r then (match o with
    | none => some p.a
    | some b => if fartherK k p.a b = true then some p.a else some b) else o
/-- of the pieces of a kind with a step and a rest the one that goes farthest -/
def bestK (k : Kd) (s r : Int) (ps : List Pc) : Option Int := ps.foldl (bestStep k s r) none
theorem best_fold (k : Kd) (s r : Int) : ∀ (ps : List Pc) (o : Option Int),
    (∀ b, ps.foldl (bestStep k s r) o = some b → o = some b ∨ ∃ p ∈ ps, p.k = k ∧ p.s = s ∧ p.a % p.s = r ∧ p.a = b) ∧
    (∀ p ∈ ps, p.k = k → p.s = s → p.a % p.s = r → ∃ b, ps.foldl (bestStep k s r) o = some b ∧ fartherK k p.a b = false) ∧
    (∀ c, o = some c → ∃ b, ps.foldl (bestStep k s r) o = some b ∧ fartherK k c b = false)
  | [], o => by
    refine ⟨fun b h => .inl h, (fun p hp => nomatch hp), fun c h => ⟨c, h, ?_⟩⟩
    unfold fartherK
    split <;> simp
  | p :: ps, o => by
    obtain ⟨h1, h2, h3⟩ := best_fold k s r ps (bestStep k s r o p)
    have self : ∀ x, fartherK k x x = false := fun x => by
      unfold fartherK
      split <;> simp
    have tr : ∀ x y z, fartherK k x y = false → fartherK k y z = false → fartherK k x z = false := fun x y z => by
      unfold fartherK
      split <;> simp <;> omega
    have asy : ∀ x y, fartherK k x y = true → fartherK k y x = false := fun x y => by
      unfold fartherK
      split <;> simp <;> omega
    rw [List.foldl_cons]
    refine ⟨fun b h => ?_, fun q hq e1 e2 e3 => ?_, fun c h => ?_⟩
    · rcases h1 b h with e | ⟨q, hq, z⟩
      · unfold bestStep at e
        by_cases hm : p.k = k ∧ p.s = s ∧ p.a % p.s = r
        · rw [if_pos hm] at e
          cases o with
          | none => exact .inr ⟨p, List.mem_cons_self, hm.1, hm.2.1, hm.2.2, Option.some.inj e⟩
          | some c =>
            simp only at e
            split at e
            · exact .inr ⟨p, List.mem_cons_self, hm.1, hm.2.1, hm.2.2, Option.some.inj e⟩
            · exact .inl e
        · rw [if_neg hm] at e
          exact .inl e
      · exact .inr ⟨q, List.mem_cons_of_mem _ hq, z⟩
    · rcases List.mem_cons.mp hq with rfl | hq
      · have e : ∃ b, bestStep k s r o q = some b ∧ fartherK k q.a b = false := by
          unfold bestStep
          rw [if_pos ⟨e1, e2, e3⟩]
          cases o with
          | none => exact ⟨_, rfl, self _⟩
          | some c =>
            simp only
            cases hf : fartherK k q.a c with
            | true => exact ⟨_, if_pos rfl, self _⟩
            | false => exact ⟨_, if_neg Bool.false_ne_true, hf⟩
        obtain ⟨b, e4, e5⟩ := e
        obtain ⟨b', e6, e7⟩ := h3 b e4
        exact ⟨b', e6, tr _ _ _ e5 e7⟩
      · exact h2 q hq e1 e2 e3
    · have e : ∃ b, bestStep k s r o p = some b ∧ fartherK k c b = false := by
        unfold bestStep
        subst h
        split
        · simp only
          cases hf : fartherK k p.a c with
          | true => exact ⟨_, if_pos rfl, asy _ _ hf⟩
          | false => exact ⟨_, if_neg Bool.false_ne_true, self _⟩
        · exact ⟨_, rfl, self _⟩
      obtain ⟨b, e4, e5⟩ := e
      obtain ⟨b', e6, e7⟩ := h3 b e4
      exact ⟨b', e6, tr _ _ _ e5 e7⟩
theorem best_snoc (k : Kd) (s r : Int) (ps : List Pc) (p : Pc) : bestK k s r (ps ++ [p]) = bestStep k s r (bestK k s r ps) p := by
  unfold bestK
  rw [List.foldl_append]
  rfl
theorem best_none {k : Kd} {s r : Int} {p : Pc} (h : p.k = k ∧ p.s = s ∧ p.a % p.s = r) : bestStep k s r none p = some p.a := by
  unfold bestStep
  rw [if_pos h]
theorem best_yes {k : Kd} {s r b : Int} {p : Pc} (h : p.k = k ∧ p.s = s ∧ p.a % p.s = r) (f : fartherK k p.a b = true) : bestStep k s r (some b) p = some p.a := by
  unfold bestStep
  rw [if_pos h]
  exact if_pos f
theorem best_no {k : Kd} {s r b : Int} {p : Pc} (h : p.k = k ∧ p.s = s ∧ p.a % p.s = r) (f : fartherK k p.a b = false) : bestStep k s r (some b) p = some b := by
  unfold bestStep
  rw [if_pos h]
  exact if_neg (by rw [f]; exact Bool.false_ne_true)
/-- whether a day lies in one of the pieces with a step -/
def upO (o : Option Int) (d : Int) : Bool := match o with
  | some b => decide (b ≤ d)
  | none => false
def dnO (o : Option Int) (d : Int) : Bool := match o with
  | some b => decide (d ≤ b)
  | none => false
def stepsOn (ps : List Pc) (d s : Int) : Bool := (bestK .ev s (d % s) ps).isSome || (upO (bestK .up s (d % s) ps) d || dnO (bestK .dn s (d % s) ps) d)
def onesHas (ps : List Pc) (d : Int) : Bool := ps.any fun p => decide (p.k = .one) && decide (p.a = d)
theorem rest_iff {d a s : Int} : (d - a) % s = 0 ↔ a % s = d % s := by
  rw [← Int.emod_eq_emod_iff_emod_sub_eq_zero]
  exact eq_comm
theorem stepsOn_iff {ps : List Pc} {d s : Int} : stepsOn ps d s = true ↔ ∃ p ∈ ps, p.k ≠ .one ∧ p.s = s ∧ inP p d = true := by
  obtain ⟨u1, u2, _⟩ := best_fold .up s (d % s) ps none
  obtain ⟨n1, n2, _⟩ := best_fold .dn s (d % s) ps none
  obtain ⟨e1, e2, _⟩ := best_fold .ev s (d % s) ps none
  unfold stepsOn
  constructor
  · intro h
    rw [Bool.or_eq_true, Bool.or_eq_true] at h
    rcases h with h | h | h
    · obtain ⟨b, hb⟩ := Option.isSome_iff_exists.mp h
      rcases e1 b hb with z | ⟨p, hp, k1, k2, k3, k4⟩
      · cases z
      refine ⟨p, hp, by rw [k1]; decide, k2, ?_⟩
      unfold inP
      rw [k1]
      rw [k2] at k3
      exact decide_eq_true (by rw [k2]; exact rest_iff.mpr k3)
    · cases hb : bestK .up s (d % s) ps with
      | none => rw [hb] at h; cases h
      | some b =>
        rw [hb] at h
        have hle := of_decide_eq_true h
        rcases u1 b hb with z | ⟨p, hp, k1, k2, k3, k4⟩
        · cases z
        refine ⟨p, hp, by rw [k1]; decide, k2, ?_⟩
        unfold inP
        rw [k1]
        rw [k2] at k3
        show (decide _ && decide _) = true
        rw [decide_eq_true (by rw [k2]; exact rest_iff.mpr k3), decide_eq_true (by rw [k4]; exact hle)]
        rfl
    · cases hb : bestK .dn s (d % s) ps with
      | none => rw [hb] at h; cases h
      | some b =>
        rw [hb] at h
        have hle := of_decide_eq_true h
        rcases n1 b hb with z | ⟨p, hp, k1, k2, k3, k4⟩
        · cases z
        refine ⟨p, hp, by rw [k1]; decide, k2, ?_⟩
        unfold inP
        rw [k1]
        rw [k2] at k3
        show (decide _ && decide _) = true
        rw [decide_eq_true (by rw [k2]; exact rest_iff.mpr k3), decide_eq_true (by rw [k4]; exact hle)]
        rfl
  · rintro ⟨p, hp, ne, rfl, hi⟩
    rw [Bool.or_eq_true, Bool.or_eq_true]
    unfold inP at hi
    cases hk : p.k with
    | one => exact absurd hk ne
    | ev =>
      rw [hk] at hi
      obtain ⟨b, hb, _⟩ := e2 p hp hk rfl (rest_iff.mp (of_decide_eq_true hi))
      exact .inl (by rw [show bestK .ev p.s (d % p.s) ps = some b from hb]; rfl)
    | up =>
      rw [hk] at hi
      have hi : (decide ((d - p.a) % p.s = 0) && decide (p.a ≤ d)) = true := hi
      rw [Bool.and_eq_true] at hi
      obtain ⟨b, hb, hf⟩ := u2 p hp hk rfl (rest_iff.mp (of_decide_eq_true hi.1))
      refine .inr (.inl ?_)
      rw [show bestK .up p.s (d % p.s) ps = some b from hb]
      unfold fartherK at hf
      rw [if_neg (by decide)] at hf
      have h1 := of_decide_eq_false hf
      have h2 := of_decide_eq_true hi.2
      exact decide_eq_true (by omega)
    | dn =>
      rw [hk] at hi
      have hi : (decide ((d - p.a) % p.s = 0) && decide (d ≤ p.a)) = true := hi
      rw [Bool.and_eq_true] at hi
      obtain ⟨b, hb, hf⟩ := n2 p hp hk rfl (rest_iff.mp (of_decide_eq_true hi.1))
      refine .inr (.inr ?_)
      rw [show bestK .dn p.s (d % p.s) ps = some b from hb]
      unfold fartherK at hf
      rw [if_pos rfl] at hf
      have h1 := of_decide_eq_false hf
      have h2 := of_decide_eq_true hi.2
      exact decide_eq_true (by omega)
/-- what the set tells of a day is what its pieces tell -/
theorem in_days {ps : List Pc} {ns : List Int} (h : ∀ k, k ∈ ns ↔ ∃ p ∈ ps, p.k ≠ .one ∧ p.s = k) (d : Int) : (onesHas ps d || ns.any (stepsOn ps d)) = inPs ps d := by
  rw [Bool.eq_iff_iff, Bool.or_eq_true]
  unfold onesHas inPs
  rw [List.any_eq_true, List.any_eq_true, List.any_eq_true]
  constructor
  · rintro (⟨p, hp, e⟩ | ⟨s, hs, e⟩)
    · rw [Bool.and_eq_true] at e
      refine ⟨p, hp, ?_⟩
      unfold inP
      rw [of_decide_eq_true e.1]
      exact decide_eq_true (of_decide_eq_true e.2).symm
    · obtain ⟨p, hp, _, _, hi⟩ := stepsOn_iff.mp e
      exact ⟨p, hp, hi⟩
  · rintro ⟨p, hp, hi⟩
    by_cases h1 : p.k = .one
    · refine .inl ⟨p, hp, ?_⟩
      unfold inP at hi
      rw [h1] at hi ⊢
      rw [Bool.and_eq_true]
      exact ⟨rfl, decide_eq_true (of_decide_eq_true hi).symm⟩
    · exact .inr ⟨p.s, (h p.s).mpr ⟨p, hp, h1, rfl⟩, stepsOn_iff.mpr ⟨p, hp, h1, rfl, hi⟩⟩
/-! ### in the heap -/
def PcA (H : Hp) (v : V) (p : Pc) : Prop := ∃ a, v = .ref a ∧ H a = some (.tup p.vals)
def PcsA (H : Hp) (xs : List V) (ps : List Pc) : Prop := All2 (PcA H) xs ps
theorem PcsA.same {H H' : Hp} {xs : List V} {ps : List Pc} (h : PcsA H xs ps) (s : Same H H') : PcsA H' xs ps := All2.mono (fun _ _ ⟨a, e, z⟩ => ⟨a, e, s _ _ z⟩) h
/-- the starts of a kind, by step and rest -/
def StA (H : Hp) (a : Addr) (ps : List Pc) (k : Kd) : Prop := ∃ kvs : List (List Key × V), H a = some (.dT kvs) ∧ kvs.length ≤ ps.length ∧ ∀ s r : Int, valV kvs [Sum.inl s, Sum.inl r] = (bestK k s r ps).map V.int
structure DayA (K : PySem.W.Frag) (H : Hp) (a : Addr) (ps : List Pc) : Prop where
  ex : ∃ (dx po o u n e st : Addr) (xs : List V) (okv : List (Key × V)) (ns : List Int), H a = some (.ins (He.ga K "Days") dx [("pieces", .ref po), ("_ones", .ref o), ("_ups", .ref u), ("_downs", .ref n), ("_everys", .ref e), ("_steps", .ref st)]) ∧
    H po = some (.tup xs) ∧ PcsA H xs ps ∧ H o = some (.dK okv) ∧ (∀ d : Int, (valV okv (Sum.inl d)).isSome = onesHas ps d) ∧ StA H u ps .up ∧ StA H n ps .dn ∧ StA H e ps .ev ∧ H st = some (.tup (ns.map V.int)) ∧ (∀ k, k ∈ ns ↔ ∃ p ∈ ps, p.k ≠ .one ∧ p.s = k) ∧ ns.length < 64
  gd : ∀ p ∈ ps, p.good
theorem StA.same {H H' : Hp} {a : Addr} {ps : List Pc} {k : Kd} (h : StA H a ps k) (s : Same H H') : StA H' a ps k := by
  obtain ⟨kvs, e, z⟩ := h
  exact ⟨kvs, s _ _ e, z⟩
theorem DayA.same {K : PySem.W.Frag} {H H' : Hp} {a : Addr} {ps : List Pc} (h : DayA K H a ps) (s : Same H H') : DayA K H' a ps := by
  obtain ⟨dx, po, o, u, n, e, st, xs, okv, ns, h1, h2, h3, h4, h5, h6, h7, h8, h9, h10⟩ := h.ex
  exact ⟨⟨dx, po, o, u, n, e, st, xs, okv, ns, s _ _ h1, s _ _ h2, h3.same s, s _ _ h4, h5, h6.same s, h7.same s, h8.same s, s _ _ h9, h10⟩, h.gd⟩
end Wd
end
section
set_option Elab.async false
set_option linter.all false
set_option maxRecDepth 100000
set_option maxHeartbeats 2000000
set_option pp.maxSteps 900
/-! ### _starts -/
namespace Wd
open PySem PySem.Spec PyProof.Rows L2 Wt TL NumText
def spStarts : Sp := fun vs H Q _ => ∃ (a : Addr) (xs : List V) (ps : List Pc) (k0 : Kd), vs = [.ref a, .str k0.w] ∧ k0 ≠ .one ∧ H a = some (.tup xs) ∧ PcsA H xs ps ∧ ps.length ≤ 1000 ∧ (∀ p ∈ ps, p.good) ∧ ∀ u H', Same H H' → StA H' u ps k0 → Q (.ref u) H'
section
variable {P : Program} {w : World} {K : PySem.W.Frag} {mg : Str → Option Value} {base : Heap} {f : Addr} {fd : FuncData}
theorem scStarts : FnScope ["pieces", "word", "found", "piece", "_", "start", "step", "key"] ["pieces", "word"] (defScope (top i__starts)) := ⟨rfl, rfl, rfl, by decide +kernel, rfl, by decide +kernel, by decide +kernel⟩
theorem ok_starts (F : FnG K "_starts" i__starts f fd) (T : Tx K mg) : FnOk P w K mg base CX0 1 f fd ["pieces", "word"] spStarts := by
  refine F.ok scStarts (fun vs H Q E h => ?_) (fun cdv A outer s H vs Q E hr h => ?_)
  · obtain ⟨a, xs, ps, k0, rfl, _⟩ := h
    rfl
  · obtain ⟨a, xs, ps, k0, rfl, hk1, hx, hps, hn, hg, k⟩ := h
    have hu := hu_of hr
    refine ⟨_, PSs.nox (pss_cons (ps_set (i := 2) scStarts.nd rfl (Or.inl rfl) pe_dnewT)
        (pss_cons (ps_for PassesOwn.never rfl (pi_tup (pv 0)) (pg_name (i := 3) scStarts.nd rfl (Or.inl rfl)) (pss_one (ps_if (pt_cmpR op_eq (pe_ix ix_tup (pv 3) pe_int (fun _ _ => rfl)) (pv 1) (nomark _)) (pss_cons (ps_asg (pv 3) (pg_tup rfl (pgs_cons (pg_name (i := 4) scStarts.nd rfl (Or.inl rfl)) (pgs_cons (pg_name (i := 5) scStarts.nd rfl (Or.inl rfl)) (pgs_cons (pg_name (i := 6) scStarts.nd rfl (Or.inl rfl)) pgs_nil)))))
        (pss_cons (ps_set (i := 7) scStarts.nd rfl (Or.inl rfl) (pe_tup (pa_cons (pv 6) (pa_cons (pe_op op_mod (pv 5) (pv 6)) pa_nil))))
        (pss_one (ps_if (PW.pt (pw_or (pt_cmp (pc_dnotin hu (pv 7) (pv 2))) (pw_or1 (pt_ifE (pt_cmpR op_eq (pv 1) pe_str (nomark _)) (pt_cmpR op_gt (pv 5) (pe_dget hu (pv 2) (pv 7) (fun _ _ => rfl)) (nomark _)) (pt_cmpR op_lt (pv 5) (pe_dget hu (pv 2) (pv 7) (fun _ _ => rfl)) (nomark _)))))) (pss_one (ps_dput hu (pv 2) (pv 7) (pv 5) rfl)) pss_nil)))) pss_nil)))
        (pss_one (ps_ret (pv 2))))), ?_⟩
    refine fun u hu0 => ?_
    have sU := same_upd (o := HO.dT []) hu0
    refine ⟨_, rfl, a, rfl, ⟨xs, SqT.of (sU _ _ hx)⟩, for_tup (xs := xs)
      (fun i σ H' => ∃ (x3 x4 x5 x6 x7 : Option V) (kvs : List (List Key × V)), σ = [some (.ref a), some (.str k0.w), some (.ref u), x3, x4, x5, x6, x7] ∧ Same H H' ∧ H' u = some (.dT kvs) ∧ kvs.length ≤ i ∧ ∀ s r : Int, valV kvs [Sum.inl s, Sum.inl r] = (bestK k0 s r (ps.take i)).map V.int)
      ⟨_, _, _, _, _, [], rfl, sU, upd_same, Nat.le_refl _, fun s r => rfl⟩ (fun i σ H' _ q => ?_) ?_ ?_⟩
    · obtain ⟨_, _, _, _, _, _, _, z, _⟩ := q
      exact SqT.of (z _ _ hx)
    · rintro i v σ H1 hvx ⟨x3, x4, x5, x6, x7, kvs, rfl, s1, hq, hl, hv⟩
      obtain ⟨p, hp, pa, rfl, pq⟩ := hps.at hvx
      have hpm := List.mem_of_getElem? hp
      have htk : ps.take (i + 1) = ps.take i ++ [p] := by rw [List.take_add_one, hp]; rfl
      have pq1 := s1 _ _ pq
      have at0 : atI p.vals 0 = some (.str p.k.w) := by
        unfold Pc.vals
        split
        · rename_i e
          rw [e]
          rfl
        · rfl
      refine ⟨_, rfl, pa, _, _, _, rfl, rfl, SqT.of pq1, at0, ?_⟩
      refine ⟨_, rfl, rfl, _, rfl, ifQ (fun e => ?_) (fun e => ?_)⟩
      · have ek : p.k = k0 := Kd.w_inj (V.str.inj (of_decide_eq_true e))
        have ev : p.vals = [.str k0.w, .int p.a, .int p.s] := by
          unfold Pc.vals
          rw [if_neg (by rw [ek]; exact hk1), ek]
        rw [ev] at pq1
        have gs := hg p hpm (by rw [ek]; exact hk1)
        refine ⟨_, rfl, pa, _, rfl, SqT.of pq1, rfl, ?_⟩
        refine ⟨_, _, rfl, _, _, rfl, _, _, rfl, rfl, ?_⟩
        refine ⟨_, rfl, _, rfl, _, rfl, p.a, p.s, rfl, rfl, by omega, (by show 2 ≤ sizeLine; decide), fun t ht => ?_⟩
        have s2 := same_upd (o := HO.tup [.int p.s, .int (p.a % p.s)]) ht
        have tq : (upd H1 t (HO.tup [.int p.s, .int (p.a % p.s)])) t = some (.tup ([Sum.inl p.s, Sum.inl (p.a % p.s)].map kV)) := upd_same
        have hq2 := s2 _ _ hq
        have s12 := s1.trans s2
        generalize upd H1 t (HO.tup [.int p.s, .int (p.a % p.s)]) = H2 at s2 tq hq2 s12 ⊢
        have hvk := hv p.s (p.a % p.s)
        have put : ∀ y : Option Int, bestStep k0 p.s (p.a % p.s) (bestK k0 p.s (p.a % p.s) (ps.take i)) p = some p.a → ∃ (x3 x4 x5 x6 x7 : Option V) (kvs' : List (List Key × V)), [some (V.ref a), some (.str k0.w), some (.ref u), some (.ref pa), some (.str k0.w), some (.int p.a), some (.int p.s), some (.ref t)] = [some (.ref a), some (.str k0.w), some (.ref u), x3, x4, x5, x6, x7] ∧
            Same H (upd H2 u (.dT (putK kvs [Sum.inl p.s, Sum.inl (p.a % p.s)] (.int p.a)))) ∧ (upd H2 u (.dT (putK kvs [Sum.inl p.s, Sum.inl (p.a % p.s)] (.int p.a)))) u = some (.dT kvs') ∧ kvs'.length ≤ i + 1 ∧ ∀ s r : Int, valV kvs' [Sum.inl s, Sum.inl r] = (bestK k0 s r (ps.take (i + 1))).map V.int := fun _ hb => by
          refine ⟨_, _, _, _, _, _, rfl, fun b o z => ?_, upd_same, ?_, fun s r => ?_⟩
          · rw [upd_ne (ne_of_none z hu0)]
            exact s12 _ _ z
          · have := length_putK kvs [Sum.inl p.s, Sum.inl (p.a % p.s)] (.int p.a)
            omega
          · rw [valV_put, htk, best_snoc]
            by_cases hsr : s = p.s ∧ r = p.a % p.s
            · obtain ⟨rfl, rfl⟩ := hsr
              rw [if_pos rfl, hb]
              rfl
            · rw [if_neg (fun z => hsr (by injection z with z1 z2; injection z2 with z2 _; exact ⟨Sum.inl.inj z1, Sum.inl.inj z2⟩)), hv]
              unfold bestStep
              rw [if_neg fun z => hsr ⟨z.2.1.symm, by rw [z.2.1] at *; exact z.2.2.symm⟩]
        have keep : bestStep k0 p.s (p.a % p.s) (bestK k0 p.s (p.a % p.s) (ps.take i)) p = bestK k0 p.s (p.a % p.s) (ps.take i) → ∀ s r : Int, valV kvs [Sum.inl s, Sum.inl r] = (bestK k0 s r (ps.take (i + 1))).map V.int := fun hb s r => by
          rw [hv, htk, best_snoc]
          by_cases hsr : s = p.s ∧ r = p.a % p.s
          · obtain ⟨rfl, rfl⟩ := hsr
            rw [hb]
          · unfold bestStep
            rw [if_neg fun z => hsr ⟨z.2.1.symm, by rw [z.2.1] at *; exact z.2.2.symm⟩]
        refine ⟨_, rfl, _, rfl, u, _, rfl, DGet.t hq2 tq, _, rfl, ?_⟩
        have hmt : p.k = k0 ∧ p.s = p.s ∧ p.a % p.s = p.a % p.s := ⟨ek, rfl, rfl⟩
        have hix : i < xs.length := (List.getElem?_eq_some_iff.mp hvx).1
        have hxl := hps.len
        cases eo : bestK k0 p.s (p.a % p.s) (ps.take i) with
        | none =>
          rw [eo] at hvk put
          rw [hvk]
          refine ifB rfl (ifB rfl ?_)
          refine ⟨_, rfl, _, rfl, _, rfl, u, _, rfl, DPut.t hq2 tq (by have := sizeLine_eq; omega), ?_⟩
          exact put none (best_none hmt)
        | some b =>
          rw [eo] at hvk put keep
          rw [hvk]
          refine ifN rfl ?_
          have hg1 : ∀ {Q : V → Hp → Prop}, Q (.int b) H2 → tDGet (tVar 2) (tVar 7) [some (V.ref a), some (.str k0.w), some (.ref u), some (.ref pa), some (.str k0.w), some (.int p.a), some (.int p.s), some (.ref t)] H2 Q := fun h => ⟨_, rfl, _, rfl, u, .int b, rfl, (by have z := DGet.t hq2 tq; rw [hvk] at z; exact z), h⟩
          refine ⟨_, rfl, rfl, _, rfl, ifQ (fun e => ?_) (fun e => ?_)⟩
          · have ed : k0 = .dn := Kd.w_inj (V.str.inj (of_decide_eq_true e))
            have ef : fartherK k0 p.a b = decide (b < p.a) := if_pos ed
            refine ⟨_, rfl, hg1 ⟨_, _, rfl, rfl, _, rfl, ifQ (fun e2 => ?_) (fun e2 => ?_)⟩⟩
            · exact ⟨_, rfl, _, rfl, _, rfl, u, _, rfl, DPut.t hq2 tq (by have := sizeLine_eq; omega), put none (best_yes hmt (ef.trans e2))⟩
            · exact ⟨_, _, _, _, _, kvs, rfl, s12, hq2, by omega, keep (best_no hmt (ef.trans e2))⟩
          · have ed : k0 ≠ .dn := fun z => (of_decide_eq_false e) (by rw [z]; rfl)
            have ef : fartherK k0 p.a b = decide (p.a < b) := if_neg ed
            refine ⟨_, rfl, hg1 ⟨_, _, rfl, rfl, _, rfl, ifQ (fun e2 => ?_) (fun e2 => ?_)⟩⟩
            · exact ⟨_, rfl, _, rfl, _, rfl, u, _, rfl, DPut.t hq2 tq (by have := sizeLine_eq; omega), put none (best_yes hmt (ef.trans e2))⟩
            · exact ⟨_, _, _, _, _, kvs, rfl, s12, hq2, by omega, keep (best_no hmt (ef.trans e2))⟩
      · have ne : p.k ≠ k0 := fun h => (of_decide_eq_false e) (by rw [h])
        refine ⟨_, _, _, _, _, kvs, rfl, s1, hq, by omega, fun s r => ?_⟩
        rw [htk, best_snoc, hv]
        unfold bestStep
        rw [if_neg fun z => ne z.1]
    · rintro σ H1 ⟨x3, x4, x5, x6, x7, kvs, rfl, s1, hq, hl, hv⟩
      have hv : ∀ s r : Int, valV kvs [Sum.inl s, Sum.inl r] = (bestK k0 s r ps).map V.int := fun s r => by rw [hv, hps.len, List.take_length]
      exact ⟨_, rfl, k u H1 s1 ⟨kvs, hq, by rw [← hps.len]; exact hl, hv⟩⟩
end
end Wd
end
section
set_option Elab.async false
set_option linter.all false
set_option maxRecDepth 100000
set_option maxHeartbeats 2000000
set_option pp.maxSteps 900
/-! ### Days._steps_on, __contains__ -/
namespace Wd
open PySem PySem.Spec PyProof.Rows L2 Wt TL NumText
def spStepsOn (K : PySem.W.Frag) : Sp := fun vs H Q _ => ∃ (a : Addr) (ps : List Pc) (d s : Int), vs = [.ref a, .int d, .int s] ∧ DayA K H a ps ∧ 1 ≤ s ∧ ∀ H', Same H H' → Q (.bl (stepsOn ps d s)) H'
def spContains (K : PySem.W.Frag) : Sp := fun vs H Q _ => ∃ (a : Addr) (ps : List Pc) (d : Int), vs = [.ref a, .int d] ∧ DayA K H a ps ∧ ∀ H', Same H H' → Q (.bl (inPs ps d)) H'
section
variable {P : Program} {w : World} {K : PySem.W.Frag} {mg : Str → Option Value} {base : Heap} {f : Addr} {fd : FuncData}
theorem scStepsOn : FnScope ["self", "day", "step", "key"] ["self", "day", "step"] (defScope (inClass (top i_Days) j_Days__steps_on)) := ⟨rfl, rfl, rfl, by decide +kernel, rfl, by decide +kernel, by decide +kernel⟩
theorem ok_stepsOn (F : FunD K "_steps_on" "Days._steps_on" (defArgs (inClass (top i_Days) j_Days__steps_on)) (defBody (inClass (top i_Days) j_Days__steps_on)) (defScope (inClass (top i_Days) j_Days__steps_on)) [] [] f fd) (T : Tx K mg) :
    FnOk P w K mg base CX0 1 f fd ["self", "day", "step"] (spStepsOn K) := by
  refine F.ok scStepsOn (fun vs H Q E h => ?_) (fun cdv A outer s H vs Q E hr h => ?_)
  · obtain ⟨a, ps, d, s, rfl, _⟩ := h
    rfl
  · obtain ⟨a, ps, d, s, rfl, da, hs, k⟩ := h
    have hu := hu_of hr
    refine ⟨_, PSs.nox (pss_cons (ps_set (i := 3) scStepsOn.nd rfl (Or.inl rfl) (pe_tup (pa_cons (pv 2) (pa_cons (pe_op op_mod (pv 1) (pv 2)) pa_nil))))
        (pss_cons (ps_if (pt_cmp (pc_din hu (pv 3) (pe_fld (pv 0) rfl))) (pss_one (ps_ret pe_bl)) pss_nil)
        (pss_cons (ps_if (PW.pt (pw_and (pt_cmp (pc_din hu (pv 3) (pe_fld (pv 0) rfl))) (pw_and1 (pt_cmpR op_le (pe_dget hu (pe_fld (pv 0) rfl) (pv 3) (fun _ _ => rfl)) (pv 1) (nomark _))))) (pss_one (ps_ret pe_bl)) pss_nil)
        (pss_one (ps_ret (pe_and (pe_cmp (pc_din hu (pv 3) (pe_fld (pv 0) rfl))) (pe_one (pe_cmpR op_ge (pe_dget hu (pe_fld (pv 0) rfl) (pv 3) (fun _ _ => rfl)) (pv 1) (nomark _))))))))), ?_⟩
    obtain ⟨dx, po, o, u, n, e, st, xs, okv, ns, h1, _, _, _, _, ⟨ku, u1, _, vu⟩, ⟨kn, n1, _, vn⟩, ⟨ke, e1, _, ve⟩, _, _, _⟩ := da.ex
    refine ⟨_, rfl, _, rfl, _, rfl, d, s, rfl, rfl, by omega, (by show 2 ≤ sizeLine; decide), fun t ht => ?_⟩
    have s1 := same_upd (o := HO.tup [.int s, .int (d % s)]) ht
    have tq : (upd H t (HO.tup [.int s, .int (d % s)])) t = some (.tup ([Sum.inl s, Sum.inl (d % s)].map kV)) := upd_same
    generalize upd H t (HO.tup [.int s, .int (d % s)]) = H1 at s1 tq ⊢
    have hd1 := s1 _ _ h1
    have gu := DGet.t (s1 _ _ u1) tq
    have gn := DGet.t (s1 _ _ n1) tq
    have ge := DGet.t (s1 _ _ e1) tq
    rw [vu] at gu
    rw [vn] at gn
    rw [ve] at ge
    have k1 := k _ s1
    unfold stepsOn at k1
    refine ⟨_, rfl, _, rfl, a, _, dx, _, .ref e, rfl, hd1, T.cl, T.n5, rfl, e, _, rfl, ge, _, rfl, ?_⟩
    cases he : bestK .ev s (d % s) ps with
    | some b =>
      rw [he] at k1
      exact ifB rfl k1
    | none =>
      rw [he] at k1
      refine ifN rfl ?_
      dsimp only [tNext, gName]
      refine seq_by (fun σ' H' => σ' = [some (.ref a), some (.int d), some (.int s), some (.ref t)] ∧ H' = H1 ∧ upO (bestK .up s (d % s) ps) d = false) (fun Nx hN => ?_) ?_
      · refine ⟨_, rfl, _, rfl, a, _, dx, _, .ref u, rfl, hd1, T.cl, T.n3, rfl, u, _, rfl, gu, _, rfl, ?_⟩
        cases hb : bestK .up s (d % s) ps with
        | none => exact ifN rfl (ifN rfl (hN _ _ ⟨rfl, rfl, by rw [hb]; rfl⟩))
        | some b =>
          rw [hb] at gu k1
          refine ifB rfl ?_
          refine ⟨_, rfl, a, _, dx, _, .ref u, rfl, hd1, T.cl, T.n3, rfl, _, rfl, u, .int b, rfl, gu, _, rfl, b, d, rfl, rfl, _, rfl, ifQ (fun e => ?_) (fun e => ?_)⟩
          · have k1 : Q (.bl (false || (decide (b ≤ d) || _))) H1 := k1
            rw [e] at k1
            exact k1
          · exact hN _ _ ⟨rfl, rfl, by rw [hb]; exact e⟩
      · rintro _ _ ⟨rfl, rfl, e3⟩
        rw [e3] at k1
        refine ⟨_, rfl, _, rfl, a, _, dx, _, .ref n, rfl, hd1, T.cl, T.n4, rfl, n, _, rfl, gn, ?_⟩
        cases hb : bestK .dn s (d % s) ps with
        | none =>
          rw [hb] at k1
          exact ⟨_, rfl, ifN rfl k1⟩
        | some b =>
          rw [hb] at k1 gn
          refine ⟨_, rfl, ifB rfl ?_⟩
          refine ⟨_, rfl, a, _, dx, _, .ref n, rfl, hd1, T.cl, T.n4, rfl, _, rfl, n, .int b, rfl, gn, _, rfl, b, d, rfl, rfl, k1⟩
structure DCon (P : Program) (w : World) (K : PySem.W.Frag) (mg : Str → Option Value) (base : Heap) : Prop where
  is_integer : Df P w K mg base CX0 1 "is_integer" ["value"] spIsInt
  stepsOn : Md P w K mg base (He.ga K "Days") CX0 1 "_steps_on" ["self", "day", "step"] (spStepsOn K)
  any : mg "any" = none
theorem scContains : FnScope ["self", "day", "step"] ["self", "day"] (defScope (inClass (top i_Days) j_Days___contains__)) := ⟨rfl, rfl, rfl, by decide +kernel, rfl, by decide +kernel, by decide +kernel⟩
theorem ok_contains (F : FunD K "__contains__" "Days.__contains__" (defArgs (inClass (top i_Days) j_Days___contains__)) (defBody (inClass (top i_Days) j_Days___contains__)) (defScope (inClass (top i_Days) j_Days___contains__)) [] [] f fd) (T : Tx K mg) (D : DCon P w K mg base) :
    FnOk P w K mg base CX0 2 f fd ["self", "day"] (spContains K) := by
  refine F.ok scContains (fun vs H Q E h => ?_) (fun cdv A outer s H vs Q E hr h => ?_)
  · obtain ⟨a, ps, d, rfl, _⟩ := h
    rfl
  · obtain ⟨a, ps, d, rfl, da, k⟩ := h
    have hu := hu_of hr
    refine ⟨_, PSs.nox (pss_cons (ps_if (pt_not (pt_val (pe_cd D.is_integer (hr.mono (by decide)) pass0 (pa_cons (pv 1) pa_nil)))) (pss_one (ps_ret pe_bl)) pss_nil)
        (pss_one (ps_ret (pe_or (pe_cmp (pc_din hu (pv 1) (pe_fld (pv 0) rfl))) (pe_one (pe_callB (cr_any rfl) (by rfl) D.any (by decide +kernel) (pa_cons (pe_lc (own := [("step", 2)]) rfl scContains.nd (pi_tup (pe_fld (pv 0) rfl)) (blkOk_by (own := [("step", 2)]) (N := ["self", "day", "step"]) (sc := defScope (inClass (top i_Days) j_Days___contains__)) (by decide +kernel)) (fun _ _ _ _ _ => (pg_name (i := 2) scContains.nd rfl (Or.inl rfl))) (fun _ _ _ _ _ => pts_nil) (fun _ _ _ _ _ => (pe_md D.stepsOn (pv 0) T.cl (hr.mono (by decide)) pass0 (pa_cons (pv 1) (pa_cons (pv 2) pa_nil))))) pa_nil))))))), ?_⟩
    obtain ⟨dx, po, o, u, n, e, st, xs, okv, ns, h1, _, _, o1, vo, _, _, _, st1, hns, hnl⟩ := da.ex
    have e2 := in_days hns d
    refine ⟨_, rfl, .int d, true, rfl, .int d, true, rfl, iteF ?_⟩
    refine ⟨_, rfl, _, rfl, a, _, dx, _, .ref o, rfl, h1, T.cl, T.n2, rfl, o, _, rfl, DGet.k (k := Sum.inl d) o1, _, rfl, ?_⟩
    rw [vo]
    cases hh : onesHas ps d with
    | true =>
      rw [hh] at e2
      rw [← e2] at k
      exact ifB rfl (k _ (Same.refl _))
    | false =>
      rw [hh, Bool.false_or] at e2
      refine ifN rfl ?_
      refine ⟨_, rfl, a, _, dx, _, .ref st, rfl, h1, T.cl, T.n6, rfl, st, rfl, ⟨_, SqT.of st1⟩, fun lB hlB => lc_tup (xs := ns.map V.int) (fun i H' => Same H H' ∧ H' lB = some (.lst (((ns.map (stepsOn ps d)).take i).map V.bl))) ⟨same_upd hlB, upd_same⟩ (fun i H' _ z => SqT.of (z.1 _ _ st1)) ?_ ?_⟩
      · rintro i x H2 hvx ⟨s2, q2⟩
        obtain ⟨m, hm, rfl⟩ : ∃ m, ns[i]? = some m ∧ V.int m = x := by
          rw [List.getElem?_map] at hvx
          exact Option.map_eq_some_iff.mp hvx
        obtain ⟨p, hp, pk, ps1⟩ := (hns m).mp (List.mem_of_getElem? hm)
        have hs1 : 1 ≤ m := ps1 ▸ da.gd p hp pk
        have hix := (List.getElem?_eq_some_iff.mp hm).1
        refine ⟨rfl, iteT (B := Same H H2 ∧ H2 lB = some (.lst (((ns.map (stepsOn ps d)).take (i + 1)).map V.bl))) ?_⟩
        refine ⟨_, rfl, a, dx, _, rfl, s2 _ _ h1, rfl, _, rfl, _, rfl, ?_⟩
        refine ⟨a, ps, d, m, rfl, da.same s2, hs1, fun H3 s3 => ?_⟩
        refine ⟨_, s3 _ _ q2, by rw [List.length_map, List.length_take, List.length_map, sizeLine_eq]; omega, fun c o zz => ?_, ?_⟩
        · rw [upd_ne (ne_of_none zz hlB)]
          exact s3 _ _ (s2 _ _ zz)
        · rw [upd_same, List.take_add_one, List.getElem?_map, hm, List.map_append]
          rfl
      · rintro H2 ⟨s2, q2⟩
        rw [List.length_map, List.take_of_length_le (by rw [List.length_map]; exact Nat.le_refl _)] at q2
        refine ⟨lB, _, rfl, SqL.of q2, ?_⟩
        have e3 : (ns.map (stepsOn ps d)).any id = ns.any (stepsOn ps d) := by rw [List.any_map]; rfl
        rw [e3, e2]
        exact k _ s2
end
end Wd
end
section
set_option Elab.async false
set_option linter.all false
set_option maxRecDepth 100000
set_option maxHeartbeats 4000000
set_option pp.maxSteps 600
/-! ### an error with one field, made of a value and raised -/
namespace Wd
open PySem PySem.Spec PyProof.Rows L2 Wt TL NumText
def spIni (C : Addr) (f : Str) (K : PySem.W.Frag) : Sp := fun vs H Q _ => ∃ (a : Addr) (v : V), vs = [.ref a, v] ∧ H a = some (exo a C none) ∧
  ∀ d, H d = none → d ≠ a → Q .non (upd (upd H d (exd d [(f, v)])) a (exo a C (some d)))
/-- the class of an error with one field -/
structure Er (P : Program) (w : World) (K : PySem.W.Frag) (mg : Str → Option Value) (base : Heap) (x f : Str) (C : Addr) : Prop where
  glo : mg x = some (.ref C)
  oex : OexC K C
  err : ErrC K C
  nof : PySem.W.findIn K (.ref C) f = some none
  exm : PySem.W.exmOne K (.ref C) (.ref C) = some true
  ini : ∃ fI fd, PySem.W.findIn K (.ref C) "__init__" = some (some (.ref fI)) ∧ PySem.W.typeIn K (.ref fI) = some (.type "function") ∧
    FnOk P w K mg base CX0 1 fI fd ["self", f] (spIni C f K) ∧ Binds K fd ["self", f] []
section
variable {X : Cx} {p p2 pos pos2 : Pos} {x f y : Str}
/-- what stands in the i-th slot becomes the field of the error -/
def tErrV (C : Addr) (f : Str) (i : Nat) (W : WX) : TS := fun _ σ H => ∃ v, (σ[i]? = some (some v)) ∧ ∀ d H', Same H H' → H d = none → H' d = some (.xd [(f, v)]) → W (.ref C) (some d) σ H'
theorem ps_errV {C : Addr} {W : WX} (i : Nat) (hc : X.calm = true) (B : Er X.prog X.w X.K X.mg X.base x f C) (hr : Room 2 X.A) (tk : Takes X W) (hN : X.N[i]? = some y := by rfl) (hv : Vis X.env.scope y := by first | exact Or.inl rfl | exact Or.inr (Or.inl rfl) | exact Or.inr (Or.inr rfl)) (hg : Gl X x := by rfl)
    (hd : (y == ("__debug__" : Str)) = false := by decide) (hcd : (y == ("__classdict__" : Str)) = false := by decide) (hdx : (x == ("__debug__" : Str)) = false := by decide)
    (he : starEach [(.Name y p2)] X.env = (false, eval (.Name y p2) X.env) :: starEach [] X.env := by rfl) (hpl : (backTo pos (starEach [] X.env)).any (·.1) = false := by rfl) :
    PS X (.Raise (some (.Call (.Name x p) [.Name y p2] [] pos)) none pos2) (tErrV C f i W) := by
  obtain ⟨fI, fd, iC, tI, G, hb⟩ := B.ini
  have R := ps_raise (pos := pos2) hc tk (pmk_oex (p := p) (pos := pos) B.oex iC tI G hr hb .nil pass0 hg B.glo (pa_cons (pv (X := X) i (pos := p2) hN hv hd hcd) pa_nil) hdx he hpl)
  constructor
  intro pins s σ H D I h
  obtain ⟨v, ev, h⟩ := h
  refine R.run pins s σ H D I ?_
  refine ⟨v, ev, (by show 1 ≤ 1000; decide), fun a ha => ⟨a, v, rfl, upd_same, fun d hd hda => ⟨rfl, d, _, upd_same, by rw [upd_ne hda, upd_same], ?_, ?_⟩⟩⟩
  · rw [upd_ne hda] at hd
    exact hd
  · have hd0 : H d = none := by
      rw [upd_ne hda] at hd
      exact hd
    refine h d _ (fun b o z => ?_) hd0 upd_same
    have n1 := ne_of_none z ha
    have n2 := ne_of_none z hd0
    rw [upd_ne n2, L2.del_ne n1, upd_ne n1, upd_ne n2, upd_ne n1]
    exact z
end
section
variable {P : Program} {w : World} {K : PySem.W.Frag} {mg : Str → Option Value} {base : Heap} {f : Addr} {fd : FuncData}
theorem scBadNumber : FnScope ["self", "number"] ["self", "number"] (defScope (inClass (top i_BadNumber) j_BadNumber___init__)) := ⟨rfl, rfl, rfl, by decide +kernel, rfl, by decide +kernel, by decide +kernel⟩
theorem ok_BadNumber {C : Addr} (F : FunD K "__init__" "BadNumber.__init__" (defArgs (inClass (top i_BadNumber) j_BadNumber___init__)) (defBody (inClass (top i_BadNumber) j_BadNumber___init__)) (defScope (inClass (top i_BadNumber) j_BadNumber___init__)) [] [] f fd) (T : OexC K C) (n : PySem.W.findIn K (.ref C) "number" = some none) :
    FnOk P w K mg base CX0 1 f fd ["self", "number"] (spIni C "number" K) ∧ Binds K fd ["self", "number"] [] := by
  refine ⟨F.ok scBadNumber (fun vs H Q E h => ?_) (fun cdv A outer s H vs Q E hr h => ?_), F.bindsN fun _ _ _ _ _ _ us hl => match us, hl with | [_, _], _ => rfl⟩
  · obtain ⟨a, v, rfl, _⟩ := h
    rfl
  · obtain ⟨a, v, rfl, ha, k⟩ := h
    exact ⟨_, PSs.nox (pss_one (ps_ost (pv 0) (pv 1))), _, rfl, _, rfl, a, C, rfl, T, n, .inl ⟨ha, fun dx nd ne => k dx nd ne⟩⟩
theorem scBadPiece : FnScope ["self", "index"] ["self", "index"] (defScope (inClass (top i_BadPiece) j_BadPiece___init__)) := ⟨rfl, rfl, rfl, by decide +kernel, rfl, by decide +kernel, by decide +kernel⟩
theorem ok_BadPiece {C : Addr} (F : FunD K "__init__" "BadPiece.__init__" (defArgs (inClass (top i_BadPiece) j_BadPiece___init__)) (defBody (inClass (top i_BadPiece) j_BadPiece___init__)) (defScope (inClass (top i_BadPiece) j_BadPiece___init__)) [] [] f fd) (T : OexC K C) (n : PySem.W.findIn K (.ref C) "index" = some none) :
    FnOk P w K mg base CX0 1 f fd ["self", "index"] (spIni C "index" K) ∧ Binds K fd ["self", "index"] [] := by
  refine ⟨F.ok scBadPiece (fun vs H Q E h => ?_) (fun cdv A outer s H vs Q E hr h => ?_), F.bindsN fun _ _ _ _ _ _ us hl => match us, hl with | [_, _], _ => rfl⟩
  · obtain ⟨a, v, rfl, _⟩ := h
    rfl
  · obtain ⟨a, v, rfl, ha, k⟩ := h
    exact ⟨_, PSs.nox (pss_one (ps_ost (pv 0) (pv 1))), _, rfl, _, rfl, a, C, rfl, T, n, .inl ⟨ha, fun dx nd ne => k dx nd ne⟩⟩
end
end Wd
end
section
set_option Elab.async false
set_option linter.all false
set_option maxRecDepth 100000
set_option maxHeartbeats 4000000
set_option pp.maxSteps 600
/-! ### raise X(e), e any expression -/
namespace Wd
open PySem PySem.Spec PyProof.Rows L2 Wt TL NumText
section
variable {X : Cx} {p pos pos2 : Pos} {x f : Str} {ee : Expr} {te : TE}
/-- what an error that is made of v and raised asks -/
def ErrRaw (K : PySem.W.Frag) (C : Addr) (f : Str) (W : WX) (σ : L2.St) (v : V) (H : Hp) : Prop := [v].length ≤ 1000 ∧ ∀ a, H a = none → spIni C f K (.ref a :: ([v] ++ [])) (upd H a (exo a C none))
  (fun u H2 => u = .non ∧ ∃ (d : Addr) (fs : List (Str × V)), H2 a = some (exo a C (some d)) ∧ H2 d = some (exd d fs) ∧ H d = none ∧ W (.ref C) (some d) σ (upd (L2.del H2 a) d (.xd fs))) (fun _ _ _ => False)
theorem errRaw {K : PySem.W.Frag} {C : Addr} {f : Str} {W : WX} {σ : L2.St} {v : V} {H : Hp} (h : ∀ d H', Same H H' → H d = none → H' d = some (.xd [(f, v)]) → W (.ref C) (some d) σ H') : ErrRaw K C f W σ v H := by
  refine ⟨(by show 1 ≤ 1000; decide), fun a ha => ⟨a, v, rfl, upd_same, fun d hd hda => ⟨rfl, d, _, upd_same, by rw [upd_ne hda, upd_same], ?_, ?_⟩⟩⟩
  · rw [upd_ne hda] at hd
    exact hd
  · have hd0 : H d = none := by
      rw [upd_ne hda] at hd
      exact hd
    refine h d _ (fun b o z => ?_) hd0 upd_same
    have n1 := ne_of_none z ha
    have n2 := ne_of_none z hd0
    rw [upd_ne n2, L2.del_ne n1, upd_ne n1, upd_ne n2, upd_ne n1]
    exact z
def tErrE (K : PySem.W.Frag) (C : Addr) (f : Str) (te : TE) (W : WX) : TS := fun _ σ H => te σ H fun v H1 => ErrRaw K C f W σ v H1
theorem errC {K : PySem.W.Frag} {C : Addr} {f : Str} {W : WX} {D : Ends} {σ : L2.St} {v : V} {H : Hp} (h : ∀ d H', Same H H' → H d = none → H' d = some (.xd [(f, v)]) → W (.ref C) (some d) σ H') : tErrE K C f (tC v) W D σ H := by
  show ErrRaw K C f W σ v H
  exact errRaw h
/-- raise X(e) -/
theorem ps_errE {C : Addr} {W : WX} (hc : X.calm = true) (B : Er X.prog X.w X.K X.mg X.base x f C) (hr : Room 2 X.A) (tk : Takes X W) (pe : PE X ee te) (hg : Gl X x := by rfl) (hdx : (x == ("__debug__" : Str)) = false := by decide)
    (he : starEach [ee] X.env = (false, eval ee X.env) :: starEach [] X.env := by rfl) (hpl : (backTo pos (starEach [] X.env)).any (·.1) = false := by rfl) :
    PS X (.Raise (some (.Call (.Name x p) [ee] [] pos)) none pos2) (tErrE X.K C f te W) := by
  obtain ⟨fI, fd, iC, tI, G, hb⟩ := B.ini
  exact ps_raise (pos := pos2) hc tk (pmk_oex (p := p) (pos := pos) B.oex iC tI G hr hb .nil pass0 hg B.glo (pa_cons pe pa_nil (hs := by first | exact he.trans rfl | exact he)) hdx he hpl)
end
end Wd
end
section
set_option Elab.async false
set_option linter.all false
set_option maxRecDepth 100000
set_option maxHeartbeats 4000000
set_option pp.maxSteps 900
/-! ### Days.__init__ -/
namespace Wd
open PySem PySem.Spec PyProof.Rows L2 Wt TL NumText
def PieA (H : Hp) (v : V) (p : Pc) : Prop := ∃ a, v = .ref a ∧ SeqH H a p.vals
/-- fewer than 64 different steps -/
def Few (ps : List Pc) : Prop := ∀ S : List Int, S.Nodup → (∀ k ∈ S, ∃ p ∈ ps, p.k ≠ .one ∧ p.s = k) → S.length < 64
/-- all but one instance is as it was -/
def Sx (x : Addr) (H H' : Hp) : Prop := ∀ c o, H c = some o → c ≠ x → H' c = some o
def Out1 (E : XK) (C : Addr) (f : Str) (v : V) (H : Hp) : Prop := ∀ d H', Same H H' → H d = none → H' d = some (.xd [(f, v)]) → E (.ref C) (some d) H'
def spDaysI (K : PySem.W.Frag) (CQ : Addr) : Sp := fun vs H Q E => ∃ (x dx l : Addr) (xs : List V), vs = [.ref x, .ref l] ∧ H x = some (.ins (He.ga K "Days") dx []) ∧ SeqH H l xs ∧ xs.length ≤ 1000 ∧
  ((∃ ps : List Pc, All2 (PieA H) xs ps ∧ (∀ p ∈ ps, p.good) ∧ Few ps ∧ ∀ H', Sx x H H' → DayA K H' x ps → Q .non H') ∨
   (∃ (i : Nat) (v : V), xs[i]? = some v ∧ PieV H v false ∧ (∀ j v', j < i → xs[j]? = some v' → PieV H v' true) ∧ Out1 E CQ "index" (.int (i : Nat)) H))
theorem PieV.same {H H' : Hp} {v : V} {b : Bool} (h : PieV H v b) (s : Same H H') : PieV H' v b := by
  cases h with
  | int n => exact .int n
  | bl n => exact .bl n
  | non => exact .non
  | str z => exact .str z
  | seq e f l => exact .seq (e.same s) f l
theorem Pc.flat (p : Pc) : (∀ v ∈ p.vals, FlatV v) ∧ p.vals.length ≤ 3 := by
  unfold Pc.vals
  split
  · refine ⟨fun v hv => ?_, by simp⟩
    rcases List.mem_cons.mp hv with rfl | hv
    · trivial
    · rcases List.mem_cons.mp hv with rfl | hv
      · trivial
      · cases hv
  · refine ⟨fun v hv => ?_, by simp⟩
    rcases List.mem_cons.mp hv with rfl | hv
    · trivial
    · rcases List.mem_cons.mp hv with rfl | hv
      · trivial
      · rcases List.mem_cons.mp hv with rfl | hv
        · trivial
        · cases hv
theorem PieA.pieV {H : Hp} {v : V} {p : Pc} (h : PieA H v p) (g : p.good) : PieV H v true := by
  obtain ⟨a, rfl, e⟩ := h
  rw [← p.okP g]
  exact .seq e p.flat.1 (by have := p.flat.2; omega)
theorem Sx.refl (x : Addr) (H : Hp) : Sx x H H := fun _ _ e _ => e
theorem Sx.of {x : Addr} {H H' H'' : Hp} (s : Sx x H H') (t : Same H' H'') : Sx x H H'' := fun c o e n => t _ _ (s c o e n)
theorem Sx.put {x : Addr} {H H' : Hp} {u : HO} (s : Sx x H H') : Sx x H (upd H' x u) := fun c o e n => by rw [upd_ne n]; exact s c o e n
theorem Sx.neL {x : Addr} {H : Hp} {C dx : Addr} {fs : List (Str × V)} {c : Addr} {u : HO} (hx : H x = some (.ins C dx fs)) (h : H c = some u) (n : ∀ C dx fs, u ≠ .ins C dx fs) : c ≠ x := fun e => by
  rw [e, hx] at h
  exact n _ _ _ (Option.some.inj h).symm
theorem Sx.step {x : Addr} {H0 H : Hp} {C dx : Addr} {fs : List (Str × V)} (s : Sx x H0 H) (hx : H x = some (.ins C dx fs)) (fs' : List (Str × V)) :
    Sx x H0 (upd H x (.ins C dx fs')) ∧ (upd H x (.ins C dx fs')) x = some (.ins C dx fs') ∧ ∀ c u, H c = some u → (∀ C dx fs, u ≠ .ins C dx fs) → (upd H x (.ins C dx fs')) c = some u :=
  ⟨s.put, upd_same, fun c u h n => by rw [upd_ne (Sx.neL hx h n)]; exact h⟩
theorem PcsA.mv {H H' : Hp} {ys : List V} {ps : List Pc} (h : PcsA H ys ps) (m : ∀ c u, H c = some u → (∀ C dx fs, u ≠ .ins C dx fs) → H' c = some u) : PcsA H' ys ps := All2.mono (fun _ _ ⟨a, e, z⟩ => ⟨a, e, m _ _ z (fun _ _ _ => nofun)⟩) h
theorem StA.mv {H H' : Hp} {a : Addr} {ps : List Pc} {k : Kd} (h : StA H a ps k) (m : ∀ c u, H c = some u → (∀ C dx fs, u ≠ .ins C dx fs) → H' c = some u) : StA H' a ps k := by
  obtain ⟨kvs, e, z⟩ := h
  exact ⟨kvs, m _ _ e (fun _ _ _ => nofun), z⟩
theorem Pc.at0 (p : Pc) : atI p.vals 0 = some (.str p.k.w) := by
  unfold Pc.vals
  split
  · rename_i e
    rw [e]
    rfl
  · rfl
theorem Pc.at1 (p : Pc) : atI p.vals 1 = some (.int p.a) := by
  unfold Pc.vals
  split <;> rfl
theorem Pc.at2 (p : Pc) (h : p.k ≠ .one) : atI p.vals 2 = some (.int p.s) := by
  unfold Pc.vals
  rw [if_neg h]
  rfl
theorem onesHas_snoc (ps : List Pc) (p : Pc) (d : Int) : onesHas (ps ++ [p]) d = (onesHas ps d || (decide (p.k = .one) && decide (p.a = d))) := by
  unfold onesHas
  rw [List.any_append]
  simp
section
variable {P : Program} {w : World} {K : PySem.W.Frag} {mg : Str → Option Value} {base : Heap} {f : Addr} {fd : FuncData}
structure DDaysI (P : Program) (w : World) (K : PySem.W.Frag) (mg : Str → Option Value) (base : Heap) (CQ : Addr) : Prop where
  is_piece : Df P w K mg base CX0 2 "_is_piece" ["piece"] spIsPiece
  starts : Df P w K mg base CX0 1 "_starts" ["pieces", "word"] spStarts
  bad : Er P w K mg base "BadPiece" "index" CQ
theorem scDaysI : FnScope ["self", "pieces", "index", "piece"] ["self", "pieces"] (defScope (inClass (top i_Days) j_Days___init__)) := ⟨rfl, rfl, rfl, by decide +kernel, rfl, by decide +kernel, by decide +kernel⟩
theorem ok_daysI {CQ : Addr} (F : FunD K "__init__" "Days.__init__" (defArgs (inClass (top i_Days) j_Days___init__)) (defBody (inClass (top i_Days) j_Days___init__)) (defScope (inClass (top i_Days) j_Days___init__)) [] [] f fd) (T : Tx K mg) (D : DDaysI P w K mg base CQ) :
    FnOk P w K mg base (L2.CX P w) 3 f fd ["self", "pieces"] (spDaysI K CQ) := by
  refine F.ok scDaysI (fun vs H Q E h => ?_) (fun cdv A outer s H vs Q E hr h => ?_)
  · obtain ⟨x, dx, l, xs, rfl, _⟩ := h
    rfl
  · obtain ⟨x, dx, l, xs, rfl, x0, hl, hn, h⟩ := h
    have hu := hu_of hr
    have B := D.bad
    refine ⟨_, (pss_cons (ps_for (passes_of rfl) rfl (pi_enumU (by rfl) T.enumerate (pa_cons (pv 1) pa_nil)) (pg_tup rfl (pgs_cons (pg_name (i := 2) scDaysI.nd rfl (Or.inl rfl)) (pgs_cons (pg_name (i := 3) scDaysI.nd rfl (Or.inl rfl)) pgs_nil))) (pss_one (ps_if (pt_not (pt_val (pe_cd D.is_piece (hr.mono (by decide)) pass0 (pa_cons (pv 3) pa_nil)))) (pss_one (ps_errE rfl B (hr.mono (by decide)) (takes_of rfl rfl rfl rfl) (pv 2))) pss_nil)))
        (pss_cons (ps_fld (pv 0) (pe_callTy call_tuple_of (by rfl) T.tuple (by decide +kernel) (pa_cons (pe_lc (own := [("piece", 3)]) rfl scDaysI.nd (pi_seqE (pv 1)) (blkOk_by (own := [("piece", 3)]) (N := ["self", "pieces", "index", "piece"]) (sc := defScope (inClass (top i_Days) j_Days___init__)) (by decide +kernel)) (fun _ _ _ _ _ => (pg_name (i := 3) scDaysI.nd rfl (Or.inl rfl))) (fun _ _ _ _ _ => pts_nil) (fun _ _ _ _ _ => (pe_callTy (r := rTupOf K) call_tuple_ofR (by rfl) T.tuple (by decide +kernel) (pa_cons (pv 3) pa_nil)))) pa_nil)) rfl)
        (pss_cons (ps_fld (pv 0) (pe_dc (own := [("piece", 3)]) rfl scDaysI.nd (pi_tup (pe_fld (pv 0) rfl)) (blkOk_by (own := [("piece", 3)]) (N := ["self", "pieces", "index", "piece"]) (sc := defScope (inClass (top i_Days) j_Days___init__)) (by decide +kernel)) (fun _ _ _ _ _ => (pg_name (i := 3) scDaysI.nd rfl (Or.inl rfl))) (fun _ _ _ _ _ => (pts_one (pt_cmpR op_eq (pe_ix (r := rIxT K) ix_tup (pv 3) pe_int (fun _ _ => rfl)) pe_str (nomark _)))) (fun _ _ _ _ _ => (pe_ix (r := rIxT K) ix_tup (pv 3) pe_int (fun _ _ => rfl))) (fun _ _ _ _ _ => pe_bl)) rfl)
        (pss_cons (ps_fld (pv 0) (pe_cd D.starts (hr.mono (by decide)) pass0 (pa_cons (pe_fld (pv 0) rfl) (pa_cons pe_str pa_nil))) rfl)
        (pss_cons (ps_fld (pv 0) (pe_cd D.starts (hr.mono (by decide)) pass0 (pa_cons (pe_fld (pv 0) rfl) (pa_cons pe_str pa_nil))) rfl)
        (pss_cons (ps_fld (pv 0) (pe_cd D.starts (hr.mono (by decide)) pass0 (pa_cons (pe_fld (pv 0) rfl) (pa_cons pe_str pa_nil))) rfl)
        (pss_one (ps_fld (pv 0) (pe_callTy call_tuple_of (by rfl) T.tuple (by decide +kernel) (pa_cons (pe_callB (cr_sortedSet rfl) (by rfl) T.sorted (by decide +kernel) (pa_cons (pe_sc1P (w := w) rfl (own := [("piece", 3)]) rfl scDaysI.nd (pi_tup (pe_fld (pv 0) rfl)) (blkOk_by (own := [("piece", 3)]) (N := ["self", "pieces", "index", "piece"]) (sc := defScope (inClass (top i_Days) j_Days___init__)) (by decide +kernel)) (fun _ _ _ _ _ => (pg_name (i := 3) scDaysI.nd rfl (Or.inl rfl))) (fun _ _ _ _ _ => (pts_one (pt_cmpR op_ne (pe_ix (r := rIxT K) ix_tup (pv 3) pe_int (fun _ _ => rfl)) pe_str (nomark _)))) (fun _ _ _ _ _ => (pe_ix (r := rIxT K) ix_tup (pv 3) pe_int (fun _ _ => rfl)))) pa_nil)) pa_nil)) rfl)))))))), ?_⟩
    rcases h with ⟨ps, hA, hg, hfew, k⟩ | ⟨i, v0, hi, hb, hgood, kE⟩
    · refine ⟨_, rfl, l, xs, rfl, hl, fun J G wk hG => for_it wk (fun i σ H' => ∃ (x2 x3 : Option V), σ = [some (.ref x), some (.ref l), x2, x3] ∧ Same H H') ⟨_, _, rfl, Same.refl _⟩ (fun i σ H' _ z => by obtain ⟨_, _, _, s⟩ := z; exact hG _ s) ?_ ?_⟩
      · rintro i v σ H1 H2 hi ⟨x2, x3, rfl, s1⟩ ⟨T1, v1, v2, rfl, hT1, rfl, q1, q2⟩
        cases q1
        have q2 : xs[i]? = some v2 := q2
        obtain ⟨p, hp, pa⟩ := hA.at q2
        have pv := ((pa.pieV (hg p (List.mem_of_getElem? hp))).same s1)
        have sT := same_upd (o := .tup [.int (i : Nat), v2]) hT1
        have tq1 : (upd H1 T1 (.tup [.int (i : Nat), v2])) T1 = some (.tup [.int (i : Nat), v2]) := upd_same
        have s2 := s1.trans sT
        have pv2 := pv.same sT
        generalize upd H1 T1 (.tup [.int (i : Nat), v2]) = H2 at sT tq1 s2 pv2 ⊢
        exact ⟨T1, _, rfl, SqT.of tq1, rfl, _, _, rfl, _, _, rfl, rfl, _, rfl, v2, true, rfl, pv2, fun H3 s3 => ⟨_, rfl, ifN rfl ⟨_, _, rfl, s2.trans s3⟩⟩⟩
      rintro σ H1 ⟨x2, x3, rfl, s1⟩
      have hxl := hA.len
      -- self.pieces
      refine ⟨_, rfl, l, xs, rfl, hl.same s1, fun J G wk hG lB hlB => lc_it wk (fun i H' => Same H1 H' ∧ ∃ ys, H' lB = some (.lst ys) ∧ PcsA H' ys (ps.take i)) ⟨same_upd hlB, [], upd_same, .nil⟩ (fun i H' _ z => hG _ ((hl.same s1).eq fun o e _ => z.1 _ _ e)) ?_ ?_⟩
      · rintro i v Hy H2 hi ⟨s2, ys, q2, al⟩ ⟨rfl, hvx⟩
        obtain ⟨p, hp, pa, rfl, pq⟩ := hA.at hvx
        have htk : ps.take (i + 1) = ps.take i ++ [p] := by rw [List.take_add_one, hp]; rfl
        have hyl := al.len
        have hyl : ys.length ≤ 1000 := by rw [hyl, List.length_take]; omega
        refine ⟨rfl, iteT (B := Same H1 H2 ∧ ∃ ys, H2 lB = some (.lst ys) ∧ PcsA H2 ys (ps.take (i + 1))) ?_⟩
        have fin : ∀ (t : Addr) (H3 : Hp), Same H2 H3 → H3 t = some (.tup p.vals) → ∃ zs, H3 lB = some (.lst zs) ∧ zs.length < sizeLine ∧ (Same H1 (upd H3 lB (.lst (zs ++ [.ref t]))) ∧ ∃ ys', (upd H3 lB (.lst (zs ++ [.ref t]))) lB = some (.lst ys') ∧ PcsA (upd H3 lB (.lst (zs ++ [.ref t]))) ys' (ps.take (i + 1))) := fun t H3 s3 tq => by
          have q3 := s3 _ _ q2
          have sB : ∀ c xs, H3 c = some (.tup xs) → (upd H3 lB (.lst (ys ++ [.ref t]))) c = some (.tup xs) := fun c xs z => by
            rw [upd_ne (fun e => by rw [e, q3] at z; cases z)]
            exact z
          refine ⟨ys, q3, by have := sizeLine_eq; omega, fun c o z => ?_, _, upd_same, ?_⟩
          · rw [upd_ne (ne_of_none z hlB)]
            exact s3 _ _ (s2 _ _ z)
          · rw [htk]
            exact (All2.mono (fun _ _ ⟨a, e, z⟩ => ⟨a, e, sB _ _ (s3 _ _ z)⟩) al).snoc ⟨t, rfl, sB _ _ tq⟩
        rcases ((show SeqH H pa p.vals from pq).same s1).same s2 with pq2 | pq2
        · exact ⟨_, rfl, pa, p.vals, rfl, .inl ⟨SqL.of pq2, fun t ht => fin t _ (same_upd ht) upd_same⟩⟩
        · exact ⟨_, rfl, pa, p.vals, rfl, .inr ⟨SqT.of pq2, fin pa _ (Same.refl _) pq2⟩⟩
      rintro H2 ⟨s2, ys, q2, al⟩
      rw [List.take_of_length_le (by omega)] at al
      refine ⟨lB, _, rfl, .inl ⟨SqL.of q2, fun tp htp => ?_⟩⟩
      have x2' := s2 _ _ (s1 _ _ x0)
      have s3 := same_upd (o := HO.tup ys) htp
      have s02 : Sx x H (upd H2 tp (.tup ys)) := (((Sx.refl x H).of s1).of s2).of s3
      have tp3 : (upd H2 tp (.tup ys)) tp = some (.tup ys) := upd_same
      have al3 := al.same s3
      have x3' := s3 _ _ x2'
      generalize upd H2 tp (.tup ys) = H3 at s3 s02 tp3 al3 x3' ⊢
      refine ⟨_, rfl, x, _, dx, _, rfl, x3', T.cl, T.n1, (by show 0 < 1000; decide), ?_⟩
      obtain ⟨s04, x4, m4⟩ := s02.step x3' (putF "pieces" (.ref tp) [])
      have tp4 := m4 _ _ tp3 (fun _ _ _ => nofun)
      have al4 := al3.mv m4
      generalize upd H3 x (.ins (He.ga K "Days") dx (putF "pieces" (.ref tp) [])) = H4 at s04 x4 m4 tp4 al4 ⊢
      clear m4 al3 x3' tp3 s02 s3 htp x2' q2 s2 hlB
      have hpl : ps.length ≤ 1000 := by omega
      have hyl : ys.length = ps.length := al4.len
      -- self._ones
      refine ⟨_, rfl, x, _, dx, _, .ref tp, rfl, x4, T.cl, T.n1, rfl, tp, rfl, ⟨ys, SqT.of tp4⟩, fun o ho => dc_it (walk_tup (xs := ys)) (fun i H' => Same H4 H' ∧ ∃ okv : List (Key × V), H' o = some (.dK okv) ∧ okv.length ≤ i ∧ ∀ d : Int, (valV okv (Sum.inl d)).isSome = onesHas (ps.take i) d)
        ⟨same_upd ho, [], upd_same, Nat.le_refl _, fun d => rfl⟩ (fun i H' _ z => SqT.of (z.1 _ _ tp4)) ?_ ?_⟩
      · rintro i v Hy H5 hi ⟨s5, okv, q5, l5, e5⟩ ⟨rfl, hvx⟩
        obtain ⟨p, hp, pa, rfl, pq⟩ := al4.at hvx
        have htk : ps.take (i + 1) = ps.take i ++ [p] := by rw [List.take_add_one, hp]; rfl
        have pq5 := s5 _ _ pq
        refine ⟨rfl, _, rfl, pa, _, _, _, rfl, rfl, SqT.of pq5, p.at0, rfl, _, rfl, ifQ (fun e => ?_) (fun e => ?_)⟩
        · have ek : p.k = .one := Kd.w_inj (V.str.inj (of_decide_eq_true e))
          refine ⟨_, rfl, pa, _, _, .int p.a, rfl, rfl, SqT.of pq5, p.at1, okv, Sum.inl p.a, rfl, q5, by have := sizeLine_eq; omega, fun c u z => ?_, _, upd_same, ?_, fun d => ?_⟩
          · rw [upd_ne (ne_of_none z ho)]
            exact s5 _ _ z
          · have := length_putK okv (Sum.inl p.a) (.bl true)
            omega
          · rw [valV_put, htk, onesHas_snoc, ← e5, ek, decide_eq_true rfl, Bool.true_and]
            by_cases hd : d = p.a
            · rw [if_pos (by rw [hd]), decide_eq_true hd.symm, Bool.or_true]
              rfl
            · rw [if_neg (fun z => hd (Sum.inl.inj z)), decide_eq_false (fun z => hd z.symm), Bool.or_false]
        · have ek : p.k ≠ .one := fun z => (of_decide_eq_false e) (by rw [z]; rfl)
          exact ⟨s5, okv, q5, by omega, fun d => by rw [e5, htk, onesHas_snoc, decide_eq_false ek, Bool.false_and, Bool.or_false]⟩
      rintro H5 ⟨s5, okv, o5, _, e5⟩
      rw [List.take_of_length_le (by omega)] at e5
      have s05 := s04.of s5
      have x5 := s5 _ _ x4
      have tp5 := s5 _ _ tp4
      have al5 := al4.same s5
      refine ⟨_, rfl, x, _, dx, _, rfl, x5, T.cl, T.n2, (by show 1 < 1000; decide), ?_⟩
      obtain ⟨s06, x6, m6⟩ := s05.step x5 (putF "_ones" (.ref o) (putF "pieces" (.ref tp) []))
      have tp6 := m6 _ _ tp5 (fun _ _ _ => nofun)
      have al6 := al5.mv m6
      have o6 := m6 _ _ o5 (fun _ _ _ => nofun)
      generalize upd H5 x (.ins (He.ga K "Days") dx (putF "_ones" (.ref o) (putF "pieces" (.ref tp) []))) = H6 at s06 x6 m6 tp6 al6 o6 ⊢
      clear m6 al5 tp5 x5 s05 o5 s5 ho al4 tp4 x4 s04
      -- self._ups
      refine ⟨_, rfl, x, _, dx, _, .ref tp, rfl, x6, T.cl, T.n1, rfl, tp, ys, ps, .up, rfl, by decide, tp6, al6, hpl, hg, fun u H7 s7 st7 => ?_⟩
      refine ⟨_, rfl, x, _, dx, _, rfl, s7 _ _ x6, T.cl, T.n3, (by show 2 < 1000; decide), ?_⟩
      obtain ⟨s08, x8, m8⟩ := (s06.of s7).step (s7 _ _ x6) (putF "_ups" (.ref u) (putF "_ones" (.ref o) (putF "pieces" (.ref tp) [])))
      have tp8 := m8 _ _ (s7 _ _ tp6) (fun _ _ _ => nofun)
      have al8 := (al6.same s7).mv m8
      have o8 := m8 _ _ (s7 _ _ o6) (fun _ _ _ => nofun)
      have u8 := st7.mv m8
      generalize upd H7 x (.ins (He.ga K "Days") dx (putF "_ups" (.ref u) (putF "_ones" (.ref o) (putF "pieces" (.ref tp) [])))) = H8 at s08 x8 m8 tp8 al8 o8 u8 ⊢
      clear m8 st7 s7 al6 o6 tp6 x6 s06
      -- self._downs
      refine ⟨_, rfl, x, _, dx, _, .ref tp, rfl, x8, T.cl, T.n1, rfl, tp, ys, ps, .dn, rfl, by decide, tp8, al8, hpl, hg, fun n H9 s9 st9 => ?_⟩
      refine ⟨_, rfl, x, _, dx, _, rfl, s9 _ _ x8, T.cl, T.n4, (by show 3 < 1000; decide), ?_⟩
      obtain ⟨s010, x10, m10⟩ := (s08.of s9).step (s9 _ _ x8) (putF "_downs" (.ref n) (putF "_ups" (.ref u) (putF "_ones" (.ref o) (putF "pieces" (.ref tp) []))))
      have tp10 := m10 _ _ (s9 _ _ tp8) (fun _ _ _ => nofun)
      have al10 := (al8.same s9).mv m10
      have o10 := m10 _ _ (s9 _ _ o8) (fun _ _ _ => nofun)
      have u10 := (u8.same s9).mv m10
      have n10 := st9.mv m10
      generalize upd H9 x (.ins (He.ga K "Days") dx (putF "_downs" (.ref n) (putF "_ups" (.ref u) (putF "_ones" (.ref o) (putF "pieces" (.ref tp) []))))) = H10 at s010 x10 m10 tp10 al10 o10 u10 n10 ⊢
      clear m10 st9 s9 al8 o8 tp8 x8 s08 u8
      -- self._everys
      refine ⟨_, rfl, x, _, dx, _, .ref tp, rfl, x10, T.cl, T.n1, rfl, tp, ys, ps, .ev, rfl, by decide, tp10, al10, hpl, hg, fun e H11 s11 st11 => ?_⟩
      refine ⟨_, rfl, x, _, dx, _, rfl, s11 _ _ x10, T.cl, T.n5, (by show 4 < 1000; decide), ?_⟩
      obtain ⟨s012, x12, m12⟩ := (s010.of s11).step (s11 _ _ x10) (putF "_everys" (.ref e) (putF "_downs" (.ref n) (putF "_ups" (.ref u) (putF "_ones" (.ref o) (putF "pieces" (.ref tp) [])))))
      have tp12 := m12 _ _ (s11 _ _ tp10) (fun _ _ _ => nofun)
      have al12 := (al10.same s11).mv m12
      have o12 := m12 _ _ (s11 _ _ o10) (fun _ _ _ => nofun)
      have u12 := (u10.same s11).mv m12
      have n12 := (n10.same s11).mv m12
      have e12 := st11.mv m12
      generalize upd H11 x (.ins (He.ga K "Days") dx (putF "_everys" (.ref e) (putF "_downs" (.ref n) (putF "_ups" (.ref u) (putF "_ones" (.ref o) (putF "pieces" (.ref tp) [])))))) = H12 at s012 x12 m12 tp12 al12 o12 u12 n12 e12 ⊢
      clear m12 st11 s11 al10 o10 tp10 x10 s010 u10 n10
      -- self._steps
      refine ⟨_, rfl, x, _, dx, _, .ref tp, rfl, x12, T.cl, T.n1, rfl, tp, rfl, ⟨ys, SqT.of tp12⟩, fun D hD => sc1_it (walk_tup (xs := ys)) (fun i H' => Same H12 H' ∧ ∃ (S : Int → Bool) (L : List Int), H' D = some (SetO w D S L.length) ∧ L.length ≤ i ∧ L.Nodup ∧ (∀ k, k ∈ L ↔ S k = true) ∧ ∀ k, k ∈ L ↔ ∃ p ∈ ps.take i, p.k ≠ .one ∧ p.s = k)
        ⟨same_upd hD, fun _ => false, [], upd_same, Nat.le_refl _, List.nodup_nil, fun k => ⟨(nomatch ·), (nomatch ·)⟩, fun k => ⟨(nomatch ·), fun ⟨p, hp, _⟩ => (nomatch hp)⟩⟩ (fun i H' _ z => SqT.of (z.1 _ _ tp12)) ?_ ?_⟩
      · rintro i v Hy H5 hi ⟨s5, S, L, q5, l5, nd, mS, mP⟩ ⟨rfl, hvx⟩
        obtain ⟨p, hp, pa, rfl, pq⟩ := al12.at hvx
        have htk : ps.take (i + 1) = ps.take i ++ [p] := by rw [List.take_add_one, hp]; rfl
        have pq5 := s5 _ _ pq
        refine ⟨rfl, _, rfl, pa, _, _, _, rfl, rfl, SqT.of pq5, p.at0, rfl, _, rfl, ifQ (fun e => ?_) (fun e => ?_)⟩
        · have ek : p.k ≠ .one := fun z => by rw [z] at e; exact absurd e (by decide)
          have mem' : ∀ L' : List Int, (∀ k, k ∈ L' ↔ (k ∈ L ∨ k = p.s)) → ∀ k, k ∈ L' ↔ ∃ q ∈ ps.take (i + 1), q.k ≠ .one ∧ q.s = k := fun L' h k => by
            rw [h, mP, htk]
            constructor
            · rintro (⟨q, hq, z⟩ | rfl)
              · exact ⟨q, List.mem_append_left _ hq, z⟩
              · exact ⟨p, List.mem_append_right _ List.mem_cons_self, ek, rfl⟩
            · rintro ⟨q, hq, z1, z2⟩
              rcases List.mem_append.mp hq with hq | hq
              · exact .inl ⟨q, hq, z1, z2⟩
              · rw [List.mem_singleton] at hq
                subst hq
                exact .inr z2.symm
          refine ⟨_, rfl, pa, _, _, .int p.s, rfl, rfl, SqT.of pq5, p.at2 ek, p.s, S, L.length, rfl, q5, ?_, ?_, ?_⟩
          · have e : scanBound = 4096 := rfl
            omega
          · intro c u z
            rw [upd_ne (ne_of_none z hD)]
            exact s5 _ _ z
          · cases hS : S p.s with
            | true =>
              refine ⟨_, L, upd_same, by omega, nd, fun k => ?_, mem' L fun k => ⟨.inl, fun h => h.elim id fun h => by rw [h]; exact (mS _).mpr hS⟩⟩
              rw [mS, Bool.or_eq_true]
              exact ⟨.inl, fun h => h.elim id fun h => by rw [of_decide_eq_true h]; exact hS⟩
            | false =>
              have nm : p.s ∉ L := fun h => by
                rw [(mS _).mp h] at hS
                cases hS
              refine ⟨_, p.s :: L, upd_same, by rw [List.length_cons]; omega, List.nodup_cons.mpr ⟨nm, nd⟩, fun k => ?_, mem' _ fun k => ?_⟩
              · rw [List.mem_cons, mS, Bool.or_eq_true]
                exact ⟨fun h => h.elim (fun h => .inr (decide_eq_true h)) .inl, fun h => h.elim .inr fun h => .inl (of_decide_eq_true h)⟩
              · rw [List.mem_cons]
                exact ⟨fun h => h.elim .inr .inl, fun h => h.elim .inr .inl⟩
        · have ek : p.k = .one := Kd.w_inj (V.str.inj (of_decide_eq_true (show decide (V.str p.k.w = V.str (Kd.one.w)) = true from by
            have e' : (!decide (V.str p.k.w = V.str (Kd.one.w))) = false := e
            rw [Bool.not_eq_false'] at e'
            exact e')))
          refine ⟨s5, S, L, q5, by omega, nd, mS, fun k => ?_⟩
          rw [mP, htk]
          constructor
          · rintro ⟨q, hq, z⟩
            exact ⟨q, List.mem_append_left _ hq, z⟩
          · rintro ⟨q, hq, z1, z2⟩
            rcases List.mem_append.mp hq with hq | hq
            · exact ⟨q, hq, z1, z2⟩
            · rw [List.mem_singleton] at hq
              subst hq
              exact absurd ek z1
      rintro H13 ⟨s13, S, L, q13, _, nd, mS, mP⟩
      rw [List.take_of_length_le (by omega)] at mP
      have h64 := hfew L nd fun k hk => (mP k).mp hk
      refine ⟨D, S, L.length, rfl, q13, h64, fun ns ls hpw hmem hlen hls => ?_⟩
      refine ⟨ls, _, rfl, .inl ⟨SqL.of upd_same, fun st hst => ?_⟩⟩
      have s14 := (s13.trans (same_upd (o := HO.lst (ns.map V.int)) hls)).trans (same_upd (o := HO.tup (ns.map V.int)) hst)
      have st14 : (upd (upd H13 ls (.lst (ns.map V.int))) st (.tup (ns.map V.int))) st = some (.tup (ns.map V.int)) := upd_same
      generalize upd (upd H13 ls (.lst (ns.map V.int))) st (.tup (ns.map V.int)) = H14 at s14 st14 ⊢
      refine ⟨_, rfl, x, _, dx, _, rfl, s14 _ _ x12, T.cl, T.n6, (by show 5 < 1000; decide), ?_⟩
      obtain ⟨s016, x16, m16⟩ := (s012.of s14).step (s14 _ _ x12) (putF "_steps" (.ref st) (putF "_everys" (.ref e) (putF "_downs" (.ref n) (putF "_ups" (.ref u) (putF "_ones" (.ref o) (putF "pieces" (.ref tp) []))))))
      refine k _ s016 ⟨⟨dx, tp, o, u, n, e, st, ys, okv, ns, x16, m16 _ _ (s14 _ _ tp12) (fun _ _ _ => nofun), (al12.same s14).mv m16, m16 _ _ (s14 _ _ o12) (fun _ _ _ => nofun), e5, (u12.same s14).mv m16, (n12.same s14).mv m16, (e12.same s14).mv m16, m16 _ _ st14 (fun _ _ _ => nofun), fun k => ?_, by rw [hlen]; exact h64⟩, hg⟩
      rw [hmem, ← mS, mP]
    · refine ⟨_, rfl, l, xs, rfl, hl, fun J G wk hG => for_it wk (fun j σ H' => j ≤ i ∧ ∃ (x2 x3 : Option V), σ = [some (.ref x), some (.ref l), x2, x3] ∧ Same H H') ⟨Nat.zero_le _, _, _, rfl, Same.refl _⟩ (fun i σ H' _ z => by obtain ⟨_, _, _, _, s⟩ := z; exact hG _ s) ?_ ?_⟩
      · rintro j v σ H1 H2 hj ⟨hji, x2, x3, rfl, s1⟩ ⟨T1, v1, v2, rfl, hT1, rfl, q1, q2⟩
        cases q1
        have q2 : xs[j]? = some v2 := q2
        have sT := same_upd (o := .tup [.int (j : Nat), v2]) hT1
        have tq1 : (upd H1 T1 (.tup [.int (j : Nat), v2])) T1 = some (.tup [.int (j : Nat), v2]) := upd_same
        have s2 := s1.trans sT
        generalize upd H1 T1 (.tup [.int (j : Nat), v2]) = H2 at sT tq1 s2 ⊢
        refine ⟨T1, _, rfl, SqT.of tq1, rfl, _, _, rfl, _, _, rfl, rfl, ?_⟩
        by_cases he : j = i
        · subst he
          rw [hi] at q2
          cases q2
          exact ⟨_, rfl, _, false, rfl, hb.same s2, fun H3 s3 => ⟨_, rfl, ifB rfl ⟨_, rfl, errRaw fun d H4 s4 hd4 hq4 => kE d H4 ((s2.trans s3).trans s4) (Same.free (s2.trans s3) hd4) hq4⟩⟩⟩
        · exact ⟨_, rfl, v2, true, rfl, (hgood j v2 (by omega) q2).same s2, fun H3 s3 => ⟨_, rfl, ifN rfl ⟨by omega, _, _, rfl, s2.trans s3⟩⟩⟩
      · rintro σ H1 ⟨hle, _⟩
        have := (List.getElem?_eq_some_iff.mp hi).1
        omega
end
end Wd
end
section
set_option Elab.async false
set_option linter.all false
set_option maxRecDepth 100000
set_option maxHeartbeats 2000000
set_option pp.maxSteps 600
/-! len(o), x in o of an instance with own __len__ and __contains__. -/
namespace Wd
open PySem PySem.Spec PyProof.Rows L2
section
variable {X : Cx} {CX : CXT} {k n : Nat} {m : Str} {C f : Addr} {fd : FuncData} {ps : List Str} {sp : Sp} {E : XK} {pins : List (Addr × Obj)} {σ : L2.St} {H : Hp} {s : Shared} {A1 : Around}
theorem own_run {us : List Value} {vs : List V} {Q : VK} (sb : Sub X k A1) (F : FnOk X.prog X.w X.K X.mg X.base CX k f fd ps sp) (hb : Binds X.K fd ps []) (hx : Passes CX X E) (I : Inv X pins σ H s) (r : Vals vs us) (h : sp vs H Q E) :
    wpAny (model X.prog X.w) A1 (call (.ref f) us) (EP X pins σ Q) X.xe s := by
  have e0 : Env0 X.prog X.w X.K X.mg X.base A1 X.stack s H := by
    have e := I.env0
    exact ⟨by rw [sb.fr]; exact e.frames, e.mod, e.bs, e.bsz, e.funs, e.frf, e.hok, e.bare⟩
  have hl : (us ++ []).length = ps.length := by rw [List.append_nil, ← r.length]; exact F.len _ _ _ _ h
  have hb' := hb s us I.kIn hl
  rw [List.append_nil] at hb'
  refine wpAny_call (codeAny_mono (F.run A1 X.stack s H ⟨us, []⟩ us vs Q E sb.room e0 hb' r h) fun r s' hq => ?_)
  cases r with
  | error e => exact hx pins σ H s e s' I hq
  | ok fl =>
    cases fl with
    | ret u => exact I.after hq
    | next => exact False.elim hq
    | brk => exact False.elim hq
    | cont => exact False.elim hq
/-- len(o) -/
def rLenOwn (C : Addr) (sp : Sp) (E : XK) : List V → Hp → VK → Prop := fun xs H Q => ∃ a dx fs, xs = [.ref a] ∧ H a = some (.ins C dx fs) ∧ sp [.ref a] H (fun v H' => ∃ n : Nat, v = .int n ∧ n ≤ sizeLine ∧ Q (.int n) H') E
theorem call_lenOwn (M : Md X.prog X.w X.K X.mg X.base C CX k "__len__" ps sp) (hr : Room (k + 1) X.A) (hx : Passes CX X E) : CallR X (.builtin "len") (rLenOwn C sp E) := by
  intro pins s σ H xs us Q I r h
  obtain ⟨a, dx, fs, rfl, ha, q⟩ := h
  obtain ⟨u, rfl, ru⟩ := r.one
  cases ru
  obtain ⟨f, fd, hm, G, hb⟩ := M.ex
  obtain ⟨mA, J, _⟩ := ins_get I.hok ha
  obtain ⟨od, J, _⟩ := J.look
  refine Calls.call_function_entry kind_len plain_len entry_len (args_len1 _) ?_
  unfold Builtin.«len»
  refine wpAny_bind (m := oneArg "len" _) (wpAny_pure ?_)
  have r2 : Vals [V.ref a] [Value.ref a] := .cons rfl .nil
  refine wpAny_bind (m := callSpecial? (.ref a) (Str.ofString "__len__")) (PySem.W.special_fn I.kIn J hm.at_ (beq_iff_eq.mp hm.fn) (wpAny_mono (own_run (Sub.in1 ⟨hr, rfl⟩) G hb hx I r2 q) (fun r s' hr => ?_) fun _ _ y => y))
  obtain ⟨v, H', I', rv, n, rfl, hn, q'⟩ := hr
  obtain ⟨t, rfl⟩ := rv
  have hs : sizeLine = 16777216 := sizeLine_eq
  refine wpAny_bind (wpAny_holding (wpAny_pure ?_))
  refine wpAny_bind (wpAny_letGo ?_)
  show wpAny _ _ (if (n : Int) < 0 then _ else _) _ _ _
  rw [if_neg (by omega)]
  show wpAny _ _ (if (n : Int) ≥ 2 ^ 63 then _ else _) _ _ _
  rw [if_neg (by omega)]
  exact wpAny_bind (wpAny_mkInt (wpAny_pure ⟨_, rfl, .int n, H', I'.tok _, ⟨_, rfl⟩, q'⟩))
/-- x in o -/
def rInOwn (C : Addr) (sp : Sp) (E : XK) (g : Bool → Bool) : R2 := fun x y H Q => ∃ a dx fs, y = .ref a ∧ H a = some (.ins C dx fs) ∧ sp [.ref a, x] H (fun v H' => ∃ b : Bool, v = .bl b ∧ Q (.bl (g b)) H') E
theorem contains_own {x : V} {u : Value} {a dx : Addr} {fs : List (Str × V)} {Q : Bool → Hp → Prop} (M : Md X.prog X.w X.K X.mg X.base C CX k "__contains__" ps sp) (hr : Room k X.A) (hx : Passes CX X E) (I : Inv X pins σ H s) (ru : RelV x u) (ha : H a = some (.ins C dx fs))
    (h : sp [.ref a, x] H (fun v H' => ∃ b : Bool, v = .bl b ∧ Q b H') E) : wpAny (model X.prog X.w) X.A (contains (.ref a) u) (TP X pins σ Q) X.xe s := by
  obtain ⟨f, fd, hm, G, hb⟩ := M.ex
  obtain ⟨mA, J, _⟩ := ins_get I.hok ha
  obtain ⟨od, J, _⟩ := J.look
  unfold contains
  refine wpAny_holding ?_
  show wpAny _ _ (specialOf (.ref a) "__contains__" >>= _) _ _ _
  refine wpAny_bind (wpAny_bind (J.type.here ((PySem.W.looks_findIn I.kIn hm.at_).here ?_)))
  show wpAny _ _ (if (some (Value.ref f) == some Value.none) = true then _ else _) _ _ _
  rw [if_neg (by simp)]
  unfold callSpecialUnlessNone?
  refine wpAny_bind (wpAny_bind (wpAny_bind (J.type.here ((PySem.W.looks_findIn I.kIn hm.at_).here ?_))))
  refine wpAny_holding (wpAny_bind ((PySem.W.bind_fn I.kIn _ (beq_iff_eq.mp hm.fn)).here ?_))
  show wpAny _ _ (if (Value.ref f == Value.none) = true then _ else _) _ _ _
  rw [if_neg (show ¬ ((Value.ref f == Value.none) = true) from Bool.false_ne_true)]
  have r2 : Vals [V.ref a, x] [Value.ref a, u] := .cons rfl (.cons ru .nil)
  refine wpAny_bind (wpAny_mono (own_run ⟨hr, rfl⟩ G hb hx I r2 h) (fun r s' hq => ?_) fun _ _ y => y)
  obtain ⟨v, H', I', rv, b, rfl, q'⟩ := hq
  cases rv
  refine wpAny_pure ?_
  exact wpAny_truthy_bool ⟨H', I', q'⟩
theorem op_inOwn (M : Md X.prog X.w X.K X.mg X.base C CX k "__contains__" ps sp) (hr : Room k X.A) (hx : Passes CX X E) : OpR X (compareOp .In) (rInOwn C sp E id) := by
  intro pins s σ H x y v u Q I rx ry h
  obtain ⟨a, dx, fs, rfl, ha, q⟩ := h
  cases ry
  show wpAny _ _ (do return Value.bool (← contains (.ref a) v)) _ _ _
  refine wpAny_bind (wpAny_mono (contains_own (Q := fun b H' => Q (.bl b) H') M hr hx I rx ha q) (fun b s' hb => ?_) fun _ _ y => y)
  obtain ⟨H', I', q'⟩ := hb
  exact wpAny_pure ⟨.bl b, H', I', rfl, q'⟩
theorem op_notinOwn (M : Md X.prog X.w X.K X.mg X.base C CX k "__contains__" ps sp) (hr : Room k X.A) (hx : Passes CX X E) : OpR X (compareOp .NotIn) (rInOwn C sp E (!·)) := by
  intro pins s σ H x y v u Q I rx ry h
  obtain ⟨a, dx, fs, rfl, ha, q⟩ := h
  cases ry
  show wpAny _ _ (do return Value.bool (!(← contains (.ref a) v))) _ _ _
  refine wpAny_bind (wpAny_mono (contains_own (Q := fun b H' => Q (.bl (!b)) H') M hr hx I rx ha q) (fun b s' hb => ?_) fun _ _ y => y)
  obtain ⟨H', I', q'⟩ := hb
  exact wpAny_pure ⟨.bl (!b), H', I', rfl, q'⟩
end
end Wd
end
section
set_option Elab.async false
set_option linter.all false
set_option maxRecDepth 100000
set_option maxHeartbeats 1000000
set_option pp.maxSteps 600
/-! range(lo, hi) whatever the bounds -/
namespace Wd
open PySem PySem.Spec PyProof.Rows L2
theorem turn_rangeB {P : Program} {w : World} {K : PySem.W.Frag} {tg : Expr} (it : Addr) (lo : Int) (n : Nat) : Turn P w K tg (Itr lo n) [it] it (fun i h => IsLongIter h it (lo + (i : Nat) * 1) ((n : Int) - (i : Nat)) 1) where
  mem := List.mem_cons_self
  obj := fun i h st b hb => by
    rw [List.mem_singleton.mp hb]
    exact ⟨_, st, fun v z => nomatch (show Data.fields _ = Data.cell v from z)⟩
  keep := fun i h h' st k => k it List.mem_cons_self _ st
  item := by
    rintro X rfl rfl rfl hc i pins s σ H E I hf st hg
    obtain ⟨f0, f1, f2, f3, f4, f5⟩ := hf it List.mem_cons_self
    refine (Walks.longrange (prog := X.prog) (w := X.w) (I.ok.hd hc) it lo 1 n).item i s _ _ hg st fun v h' tk hv st' kk => ?_
    obtain ⟨t, rfl⟩ := hv
    have I1 : Inv X pins σ H { s with heap := h', toks := tk } := I.turned (fun b o hb e => kk b o (by simpa using hb) e) f0 f1 f3 f4 f5
    exact ⟨_, rfl, go_of (s := { s with heap := h', toks := tk }) (n := "longrange_iterator") st' rfl rfl (by decide) ⟨.int (lo + i), H, I1, ⟨t, by rw [Int.mul_one]⟩, ⟨rfl, rfl⟩, st', fun b hb => (hf b hb).1⟩⟩
  done := by
    rintro X rfl rfl rfl hc i pins s σ H E I hf st hg
    obtain ⟨f0, f1, f2, f3, f4, f5⟩ := hf it List.mem_cons_self
    exact wpAny_pyNext_long_end (I.ok.hd hc) st (by have : n ≤ i := hg; omega) fun h' eb => ⟨rfl, I.turned (t' := s.toks) (fun b o hb e => eb b o hb e) f0 f1 f3 f4 f5⟩
  self := fun _ _ _ _ _ st h => wpAny_pyIter_longiter st h
def iRngB (ta : TA) : TI := fun σ H R => ta σ H fun vs H1 => ∃ i j : Int, vs = [.int i, .int j] ∧ R (Itr i (j - i).toNat) H1
theorem range_itB {X : Cx} {pins : List (Addr × Obj)} {σ : L2.St} {H : Hp} {s : Shared} {tg : Expr} {R : It → Hp → Prop} {E : Value → Shared → Prop} {lo hi : Int} {t u v : Tok} {tk : Nat} (I : Inv X pins σ H s) (q : R (Itr lo (hi - lo).toNat) H) :
    wpAny (model X.prog X.w) X.A (pyIter (.ref s.heap.objs.size)) (PIE X pins σ tg R) E { s with heap := s.heap.push { cls := .type "range", data := .fields #[.int lo t, .int hi u, .int 1 v] }, toks := tk } := by
  have I1 : Inv X pins σ H { s with heap := s.heap.push { cls := .type "range", data := .fields #[.int lo t, .int hi u, .int 1 v] }, toks := tk } := I.kept fun b o e => Heap.get?_push_of_some _ e
  generalize hr : ({ cls := .type "range", data := .fields #[.int lo t, .int hi u, .int 1 v] } : Obj) = ro at I1 ⊢
  have isr : IsRange (s.heap.push ro) s.heap.objs.size lo hi 1 t u v := by
    rw [← hr]
    exact IsRange.new ..
  have e1 : lo + ((0 : Nat) : Int) * 1 = lo := by simp
  have e2 : (((hi - lo).toNat : Nat) : Int) - ((0 : Nat) : Int) = Builtin.Range.rangeSize lo hi 1 := by rw [rangeSize_one]; split <;> omega
  have one : ∀ b ∈ [(s.heap.push ro).objs.size], FpOk X pins H b := fun b hb => by
    rw [List.mem_singleton.mp hb]
    exact I1.fpOk (Nat.le_refl _) (I1.hok.fresh (Nat.le_refl _))
  by_cases hs : Builtin.Range.small lo hi 1 = true
  · refine wpAny_pyIter_range isr hs ?_
    refine ⟨(s.heap.push ro).objs.size, [(s.heap.push ro).objs.size], _, _, H, rfl, I1.kept (t' := tk) fun b o e => Heap.get?_push_of_some _ e, turn_range _ lo (hi - lo).toNat, ?_, one, q⟩
    show IsRangeIter _ _ (lo + ((0 : Nat) : Int) * 1) ((((hi - lo).toNat : Nat) : Int) - ((0 : Nat) : Int)) 1
    rw [e1, e2]
    exact Heap.get?_push_size _ rfl
  · refine wpAny_pyIter_longrange isr (by simpa using hs) ?_
    refine ⟨(s.heap.push ro).objs.size, [(s.heap.push ro).objs.size], _, _, H, rfl, I1.kept (t' := tk) fun b o e => Heap.get?_push_of_some _ e, turn_rangeB _ lo (hi - lo).toNat, ?_, one, q⟩
    show IsLongIter _ _ (lo + ((0 : Nat) : Int) * 1) ((((hi - lo).toNat : Nat) : Int) - ((0 : Nat) : Int)) 1
    rw [e1, e2]
    exact Heap.get?_push_size _ rfl
theorem pi_rangeB {X : Cx} {tg : Expr} {a b : Expr} {ta : TA} {p pos : Pos} (hg : Gl X "range") (hm : X.mg "range" = none) (ha : PA X [a, b] ta) (hs : starEach [a, b] X.env = [(false, eval a X.env), (false, eval b X.env)] := by rfl) (hs2 : starEach [b] X.env = [(false, eval b X.env)] := by rfl) :
    PI X tg (.Call (.Name "range" p) [a, b] [] pos) (iRngB ta) := by
  refine ⟨fun pins s σ H R I h => ?_⟩
  refine Call_ (ld_blt I hg hm boot_range (PyProof.Rows.callWith_type1 (thn (ha.run pos pins s σ H _ I h) fun us s1 ⟨vs, H1, I1, r1, q1⟩ => ?_) (by rw [hs, hs2]) (by rw [hs2]; rfl)))
  obtain ⟨i, j, e, q⟩ := q1
  subst e
  obtain ⟨x, y, rfl, r2, r3⟩ := vals2 r1
  obtain ⟨t, rfl⟩ := (show ∃ t, x = Value.int i t from r2)
  obtain ⟨u, rfl⟩ := (show ∃ t, y = Value.int j t from r3)
  exact call_range_2 (range_itB I1 q)
end Wd
end
section
set_option Elab.async false
set_option linter.all false
set_option maxRecDepth 100000
set_option maxHeartbeats 4000000
set_option pp.maxSteps 900
/-! ### Days.same -/
namespace Wd
open PySem PySem.Spec PyProof.Rows L2 Wt TL NumText
def daysR (n m : Int) : List Int := (List.range (m + 1 - n).toNat).map fun (i : Nat) => n + (i : Int)
def sameD (ps qs : List Pc) (n m : Int) : Bool := (daysR n m).all fun d => inPs ps d == inPs qs d
theorem IntB.same {H H' : Hp} {v : V} {b : Bool} (h : IntB H v b) (s : Same H H') : IntB H' v b := by
  cases h with
  | int n => exact .int n
  | bl b => exact .bl b
  | non => exact .non
  | str z => exact .str z
  | tup e => exact .tup (s _ _ e)
  | lst e => exact .lst (s _ _ e)
def spSame (K : PySem.W.Frag) (CN : Addr) : Sp := fun vs H Q E => ∃ (a b : Addr) (ps qs : List Pc) (lv hv : V), vs = [.ref a, .ref b, lv, hv] ∧ DayA K H a ps ∧ DayA K H b qs ∧
  ((IntB H lv false ∧ Out1 E CN "number" lv H) ∨ (∃ n, lv = .int n ∧ IntB H hv false ∧ Out1 E CN "number" hv H) ∨ (∃ n m, lv = .int n ∧ hv = .int m ∧ n + 10000 < m ∧ Out1 E CN "number" (.int m) H) ∨
   (∃ n m, lv = .int n ∧ hv = .int m ∧ m ≤ n + 10000 ∧ ∀ H', Same H H' → Q (.bl (sameD ps qs n m)) H'))
structure DSame (P : Program) (w : World) (K : PySem.W.Frag) (mg : Str → Option Value) (base : Heap) (CN : Addr) : Prop where
  is_integer : Df P w K mg base CX0 1 "is_integer" ["value"] spIsInt
  con : Md P w K mg base (He.ga K "Days") CX0 2 "__contains__" ["self", "day"] (spContains K)
  bad : Er P w K mg base "BadNumber" "number" CN
section
variable {P : Program} {w : World} {K : PySem.W.Frag} {mg : Str → Option Value} {base : Heap} {f : Addr} {fd : FuncData}
theorem scSame : FnScope ["one", "other", "low", "high", "number", "day"] ["one", "other", "low", "high"] (defScope (inClass (top i_Days) j_Days_same)) := ⟨rfl, rfl, rfl, by decide +kernel, rfl, by decide +kernel, by decide +kernel⟩
theorem ok_same {CN : Addr} (F : FunD K "same" "Days.same" (defArgs (inClass (top i_Days) j_Days_same)) (defBody (inClass (top i_Days) j_Days_same)) (defScope (inClass (top i_Days) j_Days_same)) [] [] f fd) (T : Tx K mg) (D : DSame P w K mg base CN) :
    FnOk P w K mg base (L2.CX P w) 3 f fd ["one", "other", "low", "high"] (spSame K CN) := by
  refine F.ok scSame (fun vs H Q E h => ?_) (fun cdv A outer s H vs Q E hr h => ?_)
  · obtain ⟨a, b, ps, qs, lv, hv, rfl, _⟩ := h
    rfl
  · obtain ⟨a, b, ps, qs, lv, hv, rfl, dA, dB, h⟩ := h
    have hu := hu_of hr
    have B := D.bad
    obtain ⟨_, hMC⟩ := T.MC
    refine ⟨_, (pss_cons (ps_for (passes_of rfl) rfl (pi_tup (pe_tup (pa_cons (pv 2) (pa_cons (pv 3) pa_nil)))) (pg_name (i := 4) scSame.nd rfl (Or.inl rfl)) (pss_one (ps_if (pt_not (pt_val (pe_cd D.is_integer (hr.mono (by decide)) pass0 (pa_cons (pv 4) pa_nil)))) (pss_one (ps_errE rfl B (hr.mono (by decide)) (takes_of rfl rfl rfl rfl) (pv 4))) pss_nil)))
        (pss_cons (ps_if (pt_cmpR op_gt (pv 3) (pe_op op_add (pv 2) (pe_glob (v := .int 10000) rfl hMC ⟨_, rfl⟩)) (nomark _)) (pss_one (ps_errE rfl B (hr.mono (by decide)) (takes_of rfl rfl rfl rfl) (pv 3))) pss_nil)
        (pss_cons (ps_for (passes_of rfl) rfl (pi_rangeB (by rfl) T.range (pa_cons (pv 2) (pa_cons (pe_op op_add (pv 3) pe_int) pa_nil))) (pg_name (i := 5) scSame.nd rfl (Or.inl rfl)) (pss_one (ps_if (pt_cmpR op_ne (pe_cmpR (op_inOwn D.con (hr.mono (by decide)) pass0) (pv 5) (pv 0) (by rfl)) (pe_cmpR (op_inOwn D.con (hr.mono (by decide)) pass0) (pv 5) (pv 1) (by rfl)) (nomark _)) (pss_one (ps_ret pe_bl)) pss_nil)))
        (pss_one (ps_ret pe_bl))))), ?_⟩
    have noI : ∀ {n : Int}, IntB H (.int n) false → False := fun h => by cases h
    have key : ∀ i v, [lv, hv][i]? = some v → (0 < i → ∃ n, lv = .int n) → (∃ n, v = .int n) ∨ (IntB H v false ∧ Out1 E CN "number" v H) := fun i v hv' h0 => by
      match i, hv' with
      | 0, e =>
        cases e
        rcases h with h | ⟨n, e, _⟩ | ⟨n, m, e, _⟩ | ⟨n, m, e, _⟩
        · exact .inr h
        · exact .inl ⟨n, e⟩
        · exact .inl ⟨n, e⟩
        · exact .inl ⟨n, e⟩
      | 1, e =>
        cases e
        rcases h with ⟨hb, _⟩ | ⟨n, e, hb⟩ | ⟨n, m, _, e, _⟩ | ⟨n, m, _, e, _⟩
        · obtain ⟨n, rfl⟩ := h0 (by decide)
          exact (noI hb).elim
        · exact .inr hb
        · exact .inl ⟨m, e⟩
        · exact .inl ⟨m, e⟩
    -- the two numbers
    refine ⟨_, rfl, _, rfl, (by show 2 ≤ sizeLine; decide), fun t ht => ?_⟩
    have s1 := same_upd (o := HO.tup [lv, hv]) ht
    have tq : (upd H t (HO.tup [lv, hv])) t = some (.tup [lv, hv]) := upd_same
    generalize upd H t (HO.tup [lv, hv]) = H1 at s1 tq ⊢
    refine ⟨t, rfl, ⟨_, SqT.of tq⟩, for_tup (xs := [lv, hv]) (fun i σ H' => ∃ (x4 x5 : Option V), σ = [some (.ref a), some (.ref b), some lv, some hv, x4, x5] ∧ Same H1 H' ∧ (0 < i → ∃ n, lv = .int n) ∧ (1 < i → ∃ n, hv = .int n))
      ⟨_, _, rfl, Same.refl _, fun h => absurd h (Nat.lt_irrefl _), fun h => absurd h (Nat.not_lt_zero _)⟩ (fun i σ H' _ z => by obtain ⟨_, _, _, s, _⟩ := z; exact SqT.of (s _ _ tq)) ?_ ?_⟩
    · rintro i v σ H2 hvx ⟨x4, x5, rfl, s2, i0, i1⟩
      have s02 := s1.trans s2
      rcases key i v hvx i0 with ⟨n, rfl⟩ | ⟨hb, kE⟩
      · refine ⟨_, rfl, .int n, true, rfl, .int n, true, rfl, ifN rfl ⟨_, _, rfl, s2, fun _ => ?_, fun h1 => ?_⟩⟩
        · rcases Nat.eq_zero_or_pos i with rfl | hp
          · exact ⟨n, by cases hvx; rfl⟩
          · exact i0 hp
        · match i, hvx with
          | 1, e => exact ⟨n, by cases e; rfl⟩
          | 0, _ => exact absurd h1 (by decide)
      · exact ⟨_, rfl, v, false, rfl, hb.same s02, false, rfl, ifB rfl ⟨_, rfl, errRaw fun d H4 s4 hd4 hq4 => kE d H4 (s02.trans s4) (Same.free s02 hd4) hq4⟩⟩
    · rintro σ H2 ⟨x4, x5, rfl, s2, i0, i1⟩
      obtain ⟨n, rfl⟩ := i0 (Nat.lt_of_lt_of_le Nat.zero_lt_one (Nat.le_succ 1))
      obtain ⟨m, rfl⟩ := i1 (Nat.lt_succ_self 1)
      have s02 := s1.trans s2
      refine ⟨_, rfl, _, rfl, _, _, rfl, rfl, _, _, rfl, rfl, _, rfl, ?_⟩
      have rest : (n + 10000 < m ∧ Out1 E CN "number" (.int m) H) ∨ (m ≤ n + 10000 ∧ ∀ H', Same H H' → Q (.bl (sameD ps qs n m)) H') := by
        rcases h with ⟨hb, _⟩ | ⟨_, _, hb, _⟩ | ⟨n', m', e1, e2, h⟩ | ⟨n', m', e1, e2, h⟩
        · exact (noI hb).elim
        · exact (noI hb).elim
        · cases e1
          cases e2
          exact .inl h
        · cases e1
          cases e2
          exact .inr h
      rcases rest with ⟨hlt, kE⟩ | ⟨hle, k⟩
      · refine ifB (decide_eq_true hlt) ⟨_, rfl, errRaw fun d H4 s4 hd4 hq4 => kE d H4 (s02.trans s4) (Same.free s02 hd4) hq4⟩
      refine ifN (decide_eq_false (by omega)) ?_
      have hlen : (daysR n m).length = (m + 1 - n).toNat := by unfold daysR; rw [List.length_map, List.length_range]
      have hat : ∀ i, i < (m + 1 - n).toNat → (daysR n m)[i]? = some (n + (i : Int)) := fun i hi => by
        unfold daysR
        rw [List.getElem?_map, List.getElem?_range hi]
        rfl
      refine ⟨_, rfl, _, rfl, _, _, rfl, rfl, n, m + 1, rfl, for_range (lo := n) (n := (m + 1 - n).toNat) (fun i σ H' => ∃ (x4 x5 : Option V), σ = [some (.ref a), some (.ref b), some (.int n), some (.int m), x4, x5] ∧ Same H2 H' ∧ ((daysR n m).take i).all (fun d => inPs ps d == inPs qs d) = true)
        ⟨_, _, rfl, Same.refl _, rfl⟩ ?_ ?_⟩
      · rintro i σ H3 hi ⟨x4, x5, rfl, s3, al⟩
        have dA3 := (dA.same s02).same s3
        have dB3 := (dB.same s02).same s3
        obtain ⟨dxa, _, _, _, _, _, _, _, _, _, ha, _⟩ := dA3.ex
        refine ⟨_, rfl, _, rfl, a, dxa, _, rfl, ha, ⟨a, ps, n + (i : Int), rfl, dA3, fun H4 s4 => ?_⟩⟩
        have dB4 := dB3.same s4
        obtain ⟨dxb, _, _, _, _, _, _, _, _, _, hb, _⟩ := dB4.ex
        refine ⟨inPs ps (n + i), rfl, _, rfl, _, rfl, b, dxb, _, rfl, hb, ⟨b, qs, n + (i : Int), rfl, dB4, fun H5 s5 => ?_⟩⟩
        refine ⟨inPs qs (n + i), rfl, ?_⟩
        have snoc : (inPs ps (n + (i : Int)) == inPs qs (n + (i : Int))) = true → ((daysR n m).take (i + 1)).all (fun d => inPs ps d == inPs qs d) = true := fun e => by
          rw [List.take_add_one, hat i hi, List.all_append, al]
          simpa using e
        refine ⟨rfl, _, rfl, ifQ (fun e => ?_) (fun e => ?_)⟩
        · have ne : (inPs ps (n + (i : Int)) == inPs qs (n + (i : Int))) = false := by
            cases z : (inPs ps (n + (i : Int)) == inPs qs (n + (i : Int))) with
            | false => rfl
            | true =>
              rw [beq_iff_eq] at z
              rw [z] at e
              simp at e
          have sf : sameD ps qs n m = false := by
            unfold sameD
            rw [List.all_eq_false]
            exact ⟨_, List.mem_of_getElem? (hat i hi), by rw [ne]; exact Bool.false_ne_true⟩
          have k5 := k _ (((s02.trans s3).trans s4).trans s5)
          rw [sf] at k5
          exact k5
        · refine ⟨_, _, rfl, (s3.trans s4).trans s5, snoc ?_⟩
          cases z : (inPs ps (n + (i : Int)) == inPs qs (n + (i : Int))) with
          | true => rfl
          | false =>
            have z' := beq_eq_false_iff_ne.mp z
            simp [z'] at e
      · rintro σ H3 ⟨x4, x5, rfl, s3, al⟩
        rw [List.take_of_length_le (by rw [hlen]; exact Nat.le_refl _)] at al
        have k3 := k _ (s02.trans s3)
        rw [show sameD ps qs n m = true from al] at k3
        exact k3
end
end Wd
end
section
set_option Elab.async false
set_option linter.all false
set_option maxRecDepth 100000
set_option maxHeartbeats 2000000
set_option pp.maxSteps 900
/-! ### the law's pieces -/
namespace Wd
open PySem PySem.Spec PyProof.Rows L2 Wt TL NumText
theorem tyL {K : PySem.W.Frag} {H : Hp} {p : Addr} {xs : List V} (h : H p = some (.lst xs)) : tyV K "list" (.ref p) H := .inl ⟨rfl, xs, SqL.of h⟩
/-- a piece as the law draws it -/
def PcD (p : Pc) : Prop := -30 ≤ p.a ∧ p.a ≤ 30 ∧ (p.k ≠ .one → 1 ≤ p.s ∧ p.s ≤ 9)
theorem pcD_mk {k : Kd} {a s : Int} (h1 : -30 ≤ a) (h2 : a ≤ 30) (h3 : k ≠ .one → 1 ≤ s ∧ s ≤ 9) : PcD ⟨k, a, s⟩ := ⟨h1, h2, h3⟩
theorem PcD.good {p : Pc} (h : PcD p) : p.good := fun n => (h.2.2 n).1
theorem PcsA.but {d l : Addr} {a : Int} {H H' : Hp} {xs : List V} {ps : List Pc} (h : PcsA H xs ps) (p : Pen H d l a) (b : But d H H') : PcsA H' xs ps := All2.mono (fun _ _ ⟨t, e, z⟩ => ⟨t, e, keepT p b z⟩) h
def spLPieces : Sp := fun vs H Q _ => ∃ (d l : Addr) (a n : Int), vs = [.ref d, .int n] ∧ Pen H d l a ∧ a ≤ 90000 ∧ 0 ≤ n ∧ n ≤ 10 ∧
  ∀ (r : Addr) (xs : List V) (ps : List Pc), ps.length = n.toNat → (∀ p ∈ ps, PcD p) → Drawn d l a 30 H fun _ H' => H' r = some (.lst xs) → PcsA H' xs ps → Q (.ref r) H'
def spLInP : Sp := fun vs H Q _ => ∃ (t : Addr) (p : Pc) (x : Int), vs = [.ref t, .int x] ∧ H t = some (.tup p.vals) ∧ p.good ∧ ∀ H', Same H H' → Q (.bl (inP p x)) H'
def spLInPs : Sp := fun vs H Q _ => ∃ (r : Addr) (xs : List V) (ps : List Pc) (x : Int), vs = [.ref r, .int x] ∧ H r = some (.lst xs) ∧ PcsA H xs ps ∧ (∀ p ∈ ps, p.good) ∧ ps.length ≤ 1000 ∧ ∀ H', Same H H' → Q (.bl (inPs ps x)) H'
section
variable {P : Program} {w : World} {K : PySem.W.Frag} {mg : Str → Option Value} {base : Heap} {f : Addr} {fd : FuncData}
theorem scLPieces : FnScope ["_law_pen_here", "_law_many", "_law_found", "_law_k", "_law_kind", "_law_spot"] ["_law_pen_here", "_law_many"] (defScope (top i__law_pieces)) := ⟨rfl, rfl, rfl, by decide +kernel, rfl, by decide +kernel, by decide +kernel⟩
theorem ok_lpieces (F : FnG K "_law_pieces" i__law_pieces f fd) (T : Tx K mg) (D : DDraw P w K mg base) : FnOk P w K mg base CX0 3 f fd ["_law_pen_here", "_law_many"] spLPieces := by
  refine F.ok scLPieces (fun vs H Q E h => ?_) (fun cdv A outer s H vs Q E hr h => ?_)
  · obtain ⟨d, l, a, n, rfl, _⟩ := h
    rfl
  · obtain ⟨d, l, a, n, rfl, pen, ha, hn, hn10, k⟩ := h
    refine ⟨_, PSs.nox (pss_cons (ps_set (i := 2) scLPieces.nd rfl (Or.inl rfl) (pe_lst pa_nil))
        (pss_cons (ps_for PassesOwn.never rfl (pi_range1 (by rfl) T.range (pa_cons (pv 1) pa_nil)) (pg_name (i := 3) scLPieces.nd rfl (Or.inl rfl)) (pss_cons (ps_par (i := 4) (j := 5) (by rfl) scLPieces.nd rfl rfl (by decide) rfl rfl (pa_cons (pe_cd D.law_pick (hr.mono (by decide)) pass0 (pa_cons (pv 0) (pa_cons (pe_lst (pa_cons pe_str (pa_cons pe_str (pa_cons pe_str (pa_cons pe_str (pa_cons pe_str pa_nil)))))) pa_nil))) (pa_cons (pe_op op_sub (pe_cd D.law_draw (hr.mono (by decide)) pass0 (pa_cons (pv 0) (pa_cons pe_int pa_nil))) pe_int) pa_nil)) (by rfl))
        (pss_one (ps_expr (pe_bm PySem.F.plainAttrs_list PySem.F.slot_list_append PySem.F.type_list_append mt_append (pv 2) (pa_cons (pe_ifExp (pt_cmpR op_eq (pv 4) pe_str (nomark _)) (pe_tup (pa_cons (pv 4) (pa_cons (pv 5) pa_nil))) (pe_tup (pa_cons (pv 4) (pa_cons (pv 5) (pa_cons (pe_op op_add pe_int (pe_cd D.law_draw (hr.mono (by decide)) pass0 (pa_cons (pv 0) (pa_cons pe_int pa_nil)))) pa_nil))))) pa_nil))))))
        (pss_one (ps_ret (pv 2))))), ?_⟩
    refine ⟨Nat.zero_le _, fun r hr0 => ?_⟩
    have lr : l ≠ r := by
      obtain ⟨cs, bb, q1, q2, q3⟩ := pen
      exact ne_of_none q2 hr0
    have s1 := same_upd (o := HO.lst []) hr0
    have pen1 : Pen (upd H r (.lst [])) d l a := pen.same s1
    have rq : (upd H r (.lst [])) r = some (.lst []) := upd_same
    refine ⟨_, rfl, n, rfl, by omega, by omega, for_range (lo := 0) (n := n.toNat) (fun i σ H' => ∃ (a' : Int) (x3 x4 x5 : Option V) (xs : List V) (ps : List Pc), σ = [some (.ref d), some (.int n), some (.ref r), x3, x4, x5] ∧ Pen H' d l a' ∧ a ≤ a' ∧ a' ≤ a + 3 * i ∧ But d H H' ∧ H' r = some (.lst xs) ∧ PcsA H' xs ps ∧ ps.length = i ∧ ∀ p ∈ ps, PcD p)
      ⟨a, _, _, _, [], [], rfl, pen1, Int.le_refl _, by omega, But.same s1, rq, .nil, rfl, fun p hp => (nomatch hp)⟩ ?_ ?_⟩
    · rintro i σ H1 hi ⟨a', x3, x4, x5, xs, ps, rfl, pen2, h1, h2, b2, rq2, al, hl, hd⟩
      refine ⟨_, rfl, (by show 5 ≤ sizeLine; decide), fun t ht => ?_⟩
      have sT := same_upd (o := HO.lst [.str "one", .str "one", .str "up", .str "down", .str "every"]) ht
      have tq : (upd H1 t (HO.lst [.str "one", .str "one", .str "up", .str "down", .str "every"])) t = some (.lst [.str "one", .str "one", .str "up", .str "down", .str "every"]) := upd_same
      have penT := pen2.same sT
      have alT := al.same sT
      have rqT := sT _ _ rq2
      have bT := b2.trans (But.same sT)
      generalize upd H1 t (HO.lst [.str "one", .str "one", .str "up", .str "down", .str "every"]) = H2 at sT tq penT alT rqT bT ⊢
      refine ⟨d, l, a', .ref t, rfl, penT, by omega, .inl ⟨t, _, rfl, penT.dne tq, tq, (fun z => nomatch z), (by show 5 ≤ 1000; decide), fun x a2 H3 hx g1 g2 pen3 b3 => ?_⟩⟩
      obtain ⟨k0, rfl⟩ : ∃ k0 : Kd, x = .str k0.w := by
        rcases List.mem_cons.mp hx with rfl | hx
        · exact ⟨.one, rfl⟩
        · rcases List.mem_cons.mp hx with rfl | hx
          · exact ⟨.one, rfl⟩
          · rcases List.mem_cons.mp hx with rfl | hx
            · exact ⟨.up, rfl⟩
            · rcases List.mem_cons.mp hx with rfl | hx
              · exact ⟨.dn, rfl⟩
              · rw [List.mem_singleton] at hx
                exact ⟨.ev, hx⟩
      have al3 := alT.but penT b3
      have rq3 := keepL penT b3 rqT
      have b03 := bT.trans b3
      refine ⟨_, rfl, d, l, a2, 61, rfl, pen3, by omega, by decide, by decide, fun sp a3 H4 sp0 sp1 g3 g4 pen4 b4 => ?_⟩
      have al4 := al3.but pen3 b4
      have rq4 := keepL pen3 b4 rq3
      have b04 := b03.trans b4
      refine ⟨_, _, rfl, rfl, _, _, rfl, ?_⟩
      -- found.append(..)
      have fin : ∀ (p : Pc) (tp : Addr) (a5 : Int) (H5 : Hp), PcD p → H5 tp = some (.tup p.vals) → Pen H5 d l a5 → a3 ≤ a5 → a5 ≤ a3 + 1 → But d H4 H5 → ∃ (l' : Addr) (xs' : List V) (y : V), V.ref r = .ref l' ∧ [V.ref tp] = [y] ∧ H5 l' = some (.lst xs') ∧ xs'.length < sizeLine ∧
          ∃ (a' : Int) (x3 x4 x5 : Option V) (xs : List V) (ps : List Pc), [some (V.ref d), some (.int n), some (.ref r), some (.int (0 + (i : Int))), some (.str k0.w), some (.int (sp - 30))] = [some (.ref d), some (.int n), some (.ref r), x3, x4, x5] ∧ Pen (upd H5 l' (.lst (xs' ++ [y]))) d l a' ∧ a ≤ a' ∧ a' ≤ a + 3 * ((i + 1 : Nat) : Int) ∧ But d H (upd H5 l' (.lst (xs' ++ [y]))) ∧ (upd H5 l' (.lst (xs' ++ [y]))) r = some (.lst xs) ∧ PcsA (upd H5 l' (.lst (xs' ++ [y]))) xs ps ∧ ps.length = i + 1 ∧ ∀ p ∈ ps, PcD p := by
        intro p tp a5 H5 hp tq5 pen5 g5 g6 b5
        have rq5 := keepL pen4 b5 rq4
        have al5 := al4.but pen4 b5
        have xl : xs.length = i := by rw [al.len, hl]
        have mv : ∀ c u, H5 c = some u → c ≠ r → (upd H5 r (.lst (xs ++ [.ref tp]))) c = some u := fun c u z n => by rw [upd_ne n]; exact z
        have nt : ∀ {c : Addr} {zs : List V}, H5 c = some (.tup zs) → c ≠ r := fun z e => by rw [e, rq5] at z; cases z
        refine ⟨r, xs, _, rfl, rfl, rq5, by have := sizeLine_eq; omega, a5, _, _, _, xs ++ [.ref tp], ps ++ [p], rfl, ?_, by omega, by push_cast; omega, fun c u z n => ?_, upd_same, ?_, by rw [List.length_append, hl]; rfl, fun q hq => ?_⟩
        · obtain ⟨cs, bb, q1, q2, q3⟩ := pen5
          exact ⟨cs, bb, mv _ _ q1 (fun e => by rw [e, rq5] at q1; cases q1), mv _ _ q2 lr, q3⟩
        · rw [upd_ne (fun e => by rw [e, hr0] at z; cases z)]
          exact b5 _ _ (b04 _ _ z n) n
        · exact (All2.mono (fun _ _ ⟨t, e, z⟩ => ⟨t, e, mv _ _ z (nt z)⟩) al5).snoc ⟨tp, rfl, mv _ _ tq5 (nt tq5)⟩
        · rcases List.mem_append.mp hq with hq | hq
          · exact hd q hq
          · rw [List.mem_singleton.mp hq]
            exact hp
      refine ⟨_, rfl, tyL rq4, _, rfl, rfl, _, rfl, ifQ (fun e => ?_) (fun e => ?_)⟩
      · have ek : k0 = .one := Kd.w_inj (V.str.inj (of_decide_eq_true e))
        refine ⟨_, rfl, _, rfl, (by show 2 ≤ sizeLine; decide), fun tp htp => ?_⟩
        exact fin ⟨k0, sp - 30, 0⟩ tp a3 _ (pcD_mk (by omega) (by omega) fun z => absurd ek z) (by rw [upd_same]; unfold Pc.vals; rw [if_pos ek, ek]; rfl) (pen4.same (same_upd htp)) (Int.le_refl _) (by omega) (But.same (same_upd htp))
      · have ek : k0 ≠ .one := fun z => (of_decide_eq_false e) (by rw [z]; rfl)
        refine ⟨_, rfl, _, rfl, _, rfl, d, l, a3, 9, rfl, pen4, by omega, by decide, by decide, fun st a5 H5 st0 st1 g5 g6 pen5 b5 => ?_⟩
        refine ⟨_, _, rfl, rfl, (by show 3 ≤ sizeLine; decide), fun tp htp => ?_⟩
        exact fin ⟨k0, sp - 30, 1 + st⟩ tp a5 _ (pcD_mk (by omega) (by omega) fun _ => ⟨by omega, by omega⟩) (by rw [upd_same]; unfold Pc.vals; rw [if_neg ek]) (pen5.same (same_upd htp)) g5 g6 (b5.trans (But.same (same_upd htp)))
    · rintro σ H1 ⟨a', x3, x4, x5, xs, ps, rfl, pen2, h1, h2, b2, rq2, al, hl, hd⟩
      exact ⟨_, rfl, k r xs ps hl hd a' H1 h1 (by omega) pen2 b2 rq2 al⟩
theorem scLInP : FnScope ["_law_piece", "_law_day", "_law_gap"] ["_law_piece", "_law_day"] (defScope (top i__law_in_piece)) := ⟨rfl, rfl, rfl, by decide +kernel, rfl, by decide +kernel, by decide +kernel⟩
theorem ok_linp (F : FnG K "_law_in_piece" i__law_in_piece f fd) : FnOk P w K mg base CX0 1 f fd ["_law_piece", "_law_day"] spLInP := by
  refine F.ok scLInP (fun vs H Q E h => ?_) (fun cdv A outer s H vs Q E hr h => ?_)
  · obtain ⟨t, p, x, rfl, _⟩ := h
    rfl
  · obtain ⟨t, p, x, rfl, tq, hg, k⟩ := h
    have hu := hu_of hr
    refine ⟨_, PSs.nox (pss_cons (ps_set (i := 2) scLInP.nd rfl (Or.inl rfl) (pe_op op_sub (pv 1) (pe_ix ix_tup (pv 0) pe_int (fun _ _ => rfl))))
        (pss_cons (ps_if (pt_cmpR op_eq (pe_ix ix_tup (pv 0) pe_int (fun _ _ => rfl)) pe_str (nomark _)) (pss_one (ps_ret (pe_cmpR op_eq (pv 2) pe_int (nomark _)))) pss_nil)
        (pss_one (ps_ret (pe_and (pe_cmpR op_eq (pe_op op_mod (pv 2) (pe_ix ix_tup (pv 0) pe_int (fun _ _ => rfl))) pe_int (nomark _)) (pe_one (pe_dget hu (pe_disp (pps_cons pe_str (pe_cmpR op_ge (pv 2) pe_int (nomark _)) (pps_cons pe_str (pe_cmpR op_le (pv 2) pe_int (nomark _)) (pps_cons pe_str pe_bl pps_nil))) (by rfl) (by rfl) (fun z => by cases z) (by decide)) (pe_ix ix_tup (pv 0) pe_int (fun _ _ => rfl)) (fun _ _ => rfl)))))))), ?_⟩
    refine ⟨_, rfl, _, rfl, t, _, _, .int p.a, rfl, rfl, SqT.of tq, p.at1, _, _, rfl, rfl, ?_⟩
    refine ⟨_, rfl, t, _, _, _, rfl, rfl, SqT.of tq, p.at0, rfl, _, rfl, ifQ (fun e => ?_) (fun e => ?_)⟩
    · have ek : p.k = .one := Kd.w_inj (V.str.inj (of_decide_eq_true e))
      have e2 : inP p x = decide (V.int (x - p.a) = V.int 0) := by
        rw [show inP p x = decide (x = p.a) from by unfold inP; rw [ek]]
        by_cases h : x = p.a
        · rw [decide_eq_true h, decide_eq_true (by rw [h]; simp)]
        · rw [decide_eq_false h, decide_eq_false (fun z => h (by have := V.int.inj z; omega))]
      rw [e2] at k
      exact ⟨_, rfl, rfl, k _ (Same.refl _)⟩
    · have ek : p.k ≠ .one := fun z => (of_decide_eq_false e) (by rw [z]; rfl)
      have gs := hg ek
      refine ⟨_, rfl, _, rfl, t, _, _, .int p.s, rfl, rfl, SqT.of tq, p.at2 ek, x - p.a, p.s, rfl, rfl, by omega, rfl, ?_⟩
      have em : decide (V.int ((x - p.a) % p.s) = V.int 0) = decide ((x - p.a) % p.s = 0) := by
        by_cases h : (x - p.a) % p.s = 0
        · rw [decide_eq_true h, decide_eq_true (by rw [h])]
        · rw [decide_eq_false h, decide_eq_false (fun z => h (V.int.inj z))]
      refine ⟨_, rfl, ifQ (fun e2 => ?_) (fun e2 => ?_)⟩
      · have e3 := em.symm.trans e2
        refine fun u hu0 => ?_
        refine ⟨_, rfl, _, _, rfl, rfl, _, rfl, _, _, rfl, rfl, upd_same, [(Sum.inr "up", .bl (decide (0 ≤ x - p.a))), (Sum.inr "down", .bl (decide (x - p.a ≤ 0))), (Sum.inr "every", .bl true)], rfl, (by show 3 ≤ 15; decide), ?_⟩
        rw [upd_upd]
        have s1 := same_upd (o := HO.dK (mergeK [] [(Sum.inr "up", .bl (decide (0 ≤ x - p.a))), (Sum.inr "down", .bl (decide (x - p.a ≤ 0))), (Sum.inr "every", .bl true)])) hu0
        have uq : (upd H u (HO.dK (mergeK [] [(Sum.inr "up", .bl (decide (0 ≤ x - p.a))), (Sum.inr "down", .bl (decide (x - p.a ≤ 0))), (Sum.inr "every", .bl true)]))) u = _ := upd_same
        generalize upd H u (HO.dK (mergeK [] [(Sum.inr "up", .bl (decide (0 ≤ x - p.a))), (Sum.inr "down", .bl (decide (x - p.a ≤ 0))), (Sum.inr "every", .bl true)])) = H1 at s1 uq ⊢
        have k1 := k _ s1
        have dg : ∀ b : Bool, valV (mergeK [] [(Sum.inr "up", .bl (decide (0 ≤ x - p.a))), (Sum.inr "down", .bl (decide (x - p.a ≤ 0))), (Sum.inr "every", .bl true)]) (Sum.inr p.k.w) = some (.bl b) → DGet H1 u (.str p.k.w) (some (.bl b)) := fun b h => by
          have z := DGet.k (k := Sum.inr p.k.w) uq
          rw [h] at z
          exact z
        refine ⟨_, rfl, t, _, _, .str p.k.w, rfl, rfl, SqT.of (s1 _ _ tq), p.at0, u, .bl (inP p x), rfl, dg _ ?_, k1⟩
        cases hk : p.k with
        | one => exact absurd hk ek
        | up =>
          rw [show inP p x = (decide ((x - p.a) % p.s = 0) && decide (p.a ≤ x)) from by unfold inP; rw [hk], e3, Bool.true_and, show decide (p.a ≤ x) = decide (0 ≤ x - p.a) from by by_cases h : p.a ≤ x <;> simp [h] <;> omega]
          rfl
        | dn =>
          rw [show inP p x = (decide ((x - p.a) % p.s = 0) && decide (x ≤ p.a)) from by unfold inP; rw [hk], e3, Bool.true_and, show decide (x ≤ p.a) = decide (x - p.a ≤ 0) from by by_cases h : x ≤ p.a <;> simp [h] <;> omega]
          rfl
        | ev =>
          rw [show inP p x = decide ((x - p.a) % p.s = 0) from by unfold inP; rw [hk], e3]
          rfl
      · have e3 := em.symm.trans e2
        have e4 : inP p x = false := by
          cases hk : p.k with
          | one => exact absurd hk ek
          | up => rw [show inP p x = (decide ((x - p.a) % p.s = 0) && decide (p.a ≤ x)) from by unfold inP; rw [hk], e3]; rfl
          | dn => rw [show inP p x = (decide ((x - p.a) % p.s = 0) && decide (x ≤ p.a)) from by unfold inP; rw [hk], e3]; rfl
          | ev => rw [show inP p x = decide ((x - p.a) % p.s = 0) from by unfold inP; rw [hk], e3]
        have k1 := k _ (Same.refl _)
        rw [e4] at k1
        exact k1
structure DLIn (P : Program) (w : World) (K : PySem.W.Frag) (mg : Str → Option Value) (base : Heap) : Prop where
  law_in_piece : Df P w K mg base CX0 1 "_law_in_piece" ["_law_piece", "_law_day"] spLInP
  any : mg "any" = none
theorem scLInPs : FnScope ["_law_pieces_here", "_law_day", "_law_piece"] ["_law_pieces_here", "_law_day"] (defScope (top i__law_in_pieces)) := ⟨rfl, rfl, rfl, by decide +kernel, rfl, by decide +kernel, by decide +kernel⟩
theorem ok_linps (F : FnG K "_law_in_pieces" i__law_in_pieces f fd) (D : DLIn P w K mg base) : FnOk P w K mg base CX0 2 f fd ["_law_pieces_here", "_law_day"] spLInPs := by
  refine F.ok scLInPs (fun vs H Q E h => ?_) (fun cdv A outer s H vs Q E hr h => ?_)
  · obtain ⟨r, xs, ps, x, rfl, _⟩ := h
    rfl
  · obtain ⟨r, xs, ps, x, rfl, rq, al, hg, hl, k⟩ := h
    have hxl := al.len
    refine ⟨_, PSs.nox (pss_one (ps_ret (pe_callB (cr_any rfl) (by rfl) D.any (by decide +kernel) (pa_cons (pe_lc (own := [("_law_piece", 2)]) rfl scLInPs.nd (pi_list (pv 0)) (blkOk_by (own := [("_law_piece", 2)]) (N := ["_law_pieces_here", "_law_day", "_law_piece"]) (sc := defScope (top i__law_in_pieces)) (by decide +kernel)) (fun _ _ _ _ _ => (pg_name (i := 2) scLInPs.nd rfl (Or.inl rfl))) (fun _ _ _ _ _ => pts_nil) (fun _ _ _ _ _ => (pe_cd D.law_in_piece (hr.mono (by decide)) pass0 (pa_cons (pv 2) (pa_cons (pv 1) pa_nil))))) pa_nil)))), ?_⟩
    refine ⟨_, rfl, r, rfl, ⟨_, SqL.of rq⟩, fun lB hlB => lc_list (xs := xs) (fun i H' => Same H H' ∧ H' lB = some (.lst (((ps.map (fun p => inP p x)).take i).map V.bl))) ⟨same_upd hlB, upd_same⟩ (fun i H' _ z => SqL.of (z.1 _ _ rq)) ?_ ?_⟩
    · rintro i v H2 hvx ⟨s2, q2⟩
      obtain ⟨p, hp, t, rfl, tq⟩ := al.at hvx
      refine ⟨rfl, iteT (B := Same H H2 ∧ H2 lB = some (.lst (((ps.map (fun p => inP p x)).take (i + 1)).map V.bl))) ?_⟩
      have hix := (List.getElem?_eq_some_iff.mp hp).1
      refine ⟨_, rfl, _, rfl, t, p, x, rfl, s2 _ _ tq, hg p (List.mem_of_getElem? hp), fun H3 s3 => ?_⟩
      refine ⟨_, s3 _ _ q2, by rw [List.length_map, List.length_take, List.length_map, sizeLine_eq]; omega, fun c o zz => ?_, ?_⟩
      · rw [upd_ne (ne_of_none zz hlB)]
        exact s3 _ _ (s2 _ _ zz)
      · rw [upd_same, List.take_add_one, List.getElem?_map, hp, List.map_append]
        rfl
    · rintro H2 ⟨s2, q2⟩
      rw [List.take_of_length_le (by rw [List.length_map, hxl]; exact Nat.le_refl _)] at q2
      refine ⟨lB, _, rfl, SqL.of q2, ?_⟩
      have e3 : (ps.map (fun p => inP p x)).any id = inPs ps x := by rw [List.any_map]; rfl
      rw [e3]
      exact k _ s2
end
end Wd
end
section
set_option Elab.async false
set_option linter.all false
set_option maxRecDepth 100000
set_option maxHeartbeats 4000000
set_option pp.maxSteps 900
/-! ### what is no piece -/
namespace Wd
open PySem PySem.Spec PyProof.Rows L2 Wt TL NumText
def flatB : V → Bool
  | .int _ => true
  | .bl _ => true
  | .non => true
  | .str _ => true
  | _ => false
theorem flat_of {xs : List V} (h : xs.all flatB = true) : ∀ v ∈ xs, FlatV v := fun v hv => by
  have z := List.all_eq_true.mp h v hv
  cases v <;> first | trivial | exact absurd z Bool.false_ne_true
theorem pieNew {H : Hp} {vs : List V} {t : Addr} {o : HO} {xs : List V} (h : ∀ v ∈ vs, PieV H v false) (ht : H t = none) (e : SeqH (upd H t o) t xs) (l : xs.length ≤ 100) (f : xs.all flatB = true) (n : okP xs = false) : ∀ v ∈ vs ++ [.ref t], PieV (upd H t o) v false := fun v hv => by
  rcases List.mem_append.mp hv with hv | hv
  · exact (h v hv).same (same_upd ht)
  · rw [List.mem_singleton.mp hv]
    have z : PieV (upd H t o) (.ref t) (okP xs) := .seq e (flat_of f) l
    rw [n] at z
    exact z
theorem pieAdd {H H' : Hp} {vs : List V} {v : V} (h : ∀ v ∈ vs, PieV H v false) (s : Same H H') (hv : PieV H' v false) : ∀ x ∈ vs ++ [v], PieV H' x false := fun x hx => by
  rcases List.mem_append.mp hx with hx | hx
  · exact (h x hx).same s
  · rw [List.mem_singleton.mp hx]
    exact hv
theorem catNew {H : Hp} {a b t : Addr} {xs ys : List V} (ha : H a = some (.lst xs)) (hb : H b = some (.lst ys)) (pa : ∀ v ∈ xs, PieV H v false) (pb : ∀ v ∈ ys, PieV H v false) (ht : H t = none) :
    Same H (upd H t (.lst (xs ++ ys))) ∧ (upd H t (.lst (xs ++ ys))) t = some (.lst (xs ++ ys)) ∧ ∀ v ∈ xs ++ ys, PieV (upd H t (.lst (xs ++ ys))) v false :=
  ⟨same_upd ht, upd_same, fun v hv => ((List.mem_append.mp hv).elim (pa v) (pb v)).same (same_upd ht)⟩
theorem PieV.but {d l : Addr} {a : Int} {H H' : Hp} {v : V} {b : Bool} (h : PieV H v b) (p : Pen H d l a) (s : But d H H') : PieV H' v b := by
  cases h with
  | int n => exact .int n
  | bl n => exact .bl n
  | non => exact .non
  | str z => exact .str z
  | seq e f l =>
    refine .seq ?_ f l
    rcases e with e | e
    · exact .inl (keepL p s e)
    · exact .inr (keepT p s e)
def spLNoP : Sp := fun vs H Q _ => ∃ (d l : Addr) (a : Int), vs = [.ref d] ∧ Pen H d l a ∧ a ≤ 100000 ∧ ∀ v, Drawn d l a 1 H fun _ H' => PieV H' v false → Q v H'
section
variable {P : Program} {w : World} {K : PySem.W.Frag} {mg : Str → Option Value} {base : Heap} {f : Addr} {fd : FuncData}
theorem scLNoP : FnScope ["_law_pen_here", "_law_some"] ["_law_pen_here"] (defScope (top i__law_no_piece)) := ⟨rfl, rfl, rfl, by decide +kernel, rfl, by decide +kernel, by decide +kernel⟩
theorem ok_lnop (F : FnG K "_law_no_piece" i__law_no_piece f fd) (D : DDraw P w K mg base) : FnOk P w K mg base CX0 3 f fd ["_law_pen_here"] spLNoP := by
  refine F.ok scLNoP (fun vs H Q E h => ?_) (fun cdv A outer s H vs Q E hr h => ?_)
  · obtain ⟨d, l, a, rfl, _⟩ := h
    rfl
  · obtain ⟨d, l, a, rfl, pen, ha, k⟩ := h
    refine ⟨_, PSs.nox (pss_cons (ps_set (i := 1) scLNoP.nd rfl (Or.inl rfl) (pe_lst (pa_cons (pe_tup (pa_cons pe_str pa_nil)) (pa_cons (pe_tup (pa_cons pe_str (pa_cons pe_int (pa_cons pe_int pa_nil)))) (pa_cons (pe_tup (pa_cons pe_str (pa_cons pe_int pa_nil))) (pa_cons (pe_tup (pa_cons pe_str (pa_cons pe_int (pa_cons pe_int pa_nil)))) (pa_cons (pe_tup (pa_cons pe_str (pa_cons pe_int (pa_cons (pe_un un_neg pe_int) pa_nil)))) (pa_cons (pe_tup (pa_cons pe_str (pa_cons pe_int (pa_cons pe_int (pa_cons pe_int pa_nil))))) pa_nil))))))))
        (pss_cons (ps_set (i := 1) scLNoP.nd rfl (Or.inl rfl) (pe_op op_cat (pv 1) (pe_lst (pa_cons (pe_tup (pa_cons pe_str (pa_cons pe_int (pa_cons pe_int pa_nil)))) (pa_cons (pe_tup (pa_cons pe_str (pa_cons pe_int pa_nil))) (pa_cons (pe_tup pa_nil) (pa_cons pe_non (pa_cons pe_int (pa_cons pe_str (pa_cons (pe_tup (pa_cons pe_str (pa_cons pe_str pa_nil))) (pa_cons (pe_tup (pa_cons pe_str (pa_cons pe_bl pa_nil))) pa_nil)))))))))))
        (pss_cons (ps_set (i := 1) scLNoP.nd rfl (Or.inl rfl) (pe_op op_cat (pv 1) (pe_lst (pa_cons (pe_tup (pa_cons pe_str (pa_cons pe_int (pa_cons pe_bl pa_nil)))) (pa_cons (pe_tup (pa_cons pe_str (pa_cons pe_non (pa_cons pe_int pa_nil)))) (pa_cons (pe_tup (pa_cons pe_str (pa_cons pe_int (pa_cons pe_str pa_nil)))) (pa_cons (pe_tup (pa_cons pe_int (pa_cons pe_str pa_nil))) pa_nil)))))))
        (pss_cons (ps_set (i := 1) scLNoP.nd rfl (Or.inl rfl) (pe_op op_cat (pv 1) (pe_lst (pa_cons (pe_lst (pa_cons pe_str pa_nil)) (pa_cons (pe_lst (pa_cons pe_str (pa_cons pe_int (pa_cons pe_int pa_nil)))) (pa_cons (pe_lst (pa_cons pe_str (pa_cons pe_int (pa_cons pe_bl pa_nil)))) (pa_cons (pe_lst (pa_cons pe_str (pa_cons pe_int (pa_cons pe_int pa_nil)))) (pa_cons (pe_lst pa_nil) (pa_cons (pe_lst (pa_cons pe_str (pa_cons pe_int pa_nil))) pa_nil)))))))))
        (pss_one (ps_ret (pe_cd D.law_pick (hr.mono (by decide)) pass0 (pa_cons (pv 0) (pa_cons (pv 1) pa_nil))))))))), ?_⟩
    have p0 : ∀ v ∈ ([] : List V), PieV H v false := fun v hv => nomatch hv
    have s0 : Same H H := Same.refl _
    have pen0 := pen
    have q0_0 : ∀ v ∈ ([] : List V), PieV H v false := fun v hv => nomatch hv
    refine ⟨(by show 1 ≤ sizeLine; decide), fun t1 ht1 => ?_⟩
    have a1 := pieNew q0_0 (o := HO.tup [.str "one"]) ht1 (.inr upd_same) (Nat.le_of_ble_eq_true rfl) rfl rfl
    have b1 := same_upd (o := HO.tup [.str "one"]) ht1
    generalize upd H t1 (HO.tup [.str "one"]) = H1 at a1 b1 ⊢
    have sS1 := s0.trans b1
    refine ⟨(by show 3 ≤ sizeLine; decide), fun t2 ht2 => ?_⟩
    have a2 := pieNew a1 (o := HO.tup [.str "one", .int 1, .int 1]) ht2 (.inr upd_same) (Nat.le_of_ble_eq_true rfl) rfl rfl
    have b2 := same_upd (o := HO.tup [.str "one", .int 1, .int 1]) ht2
    generalize upd H1 t2 (HO.tup [.str "one", .int 1, .int 1]) = H2 at a2 b2 ⊢
    have sS2 := sS1.trans b2
    refine ⟨(by show 2 ≤ sizeLine; decide), fun t3 ht3 => ?_⟩
    have a3 := pieNew a2 (o := HO.tup [.str "up", .int 1]) ht3 (.inr upd_same) (Nat.le_of_ble_eq_true rfl) rfl rfl
    have b3 := same_upd (o := HO.tup [.str "up", .int 1]) ht3
    generalize upd H2 t3 (HO.tup [.str "up", .int 1]) = H3 at a3 b3 ⊢
    have sS3 := sS2.trans b3
    refine ⟨(by show 3 ≤ sizeLine; decide), fun t4 ht4 => ?_⟩
    have a4 := pieNew a3 (o := HO.tup [.str "up", .int 1, .int 0]) ht4 (.inr upd_same) (Nat.le_of_ble_eq_true rfl) rfl rfl
    have b4 := same_upd (o := HO.tup [.str "up", .int 1, .int 0]) ht4
    generalize upd H3 t4 (HO.tup [.str "up", .int 1, .int 0]) = H4 at a4 b4 ⊢
    have sS4 := sS3.trans b4
    refine ⟨_, rfl, (by show 3 ≤ sizeLine; decide), fun t5 ht5 => ?_⟩
    have a5 := pieNew a4 (o := HO.tup [.str "down", .int 0, .int (-2)]) ht5 (.inr upd_same) (Nat.le_of_ble_eq_true rfl) rfl rfl
    have b5 := same_upd (o := HO.tup [.str "down", .int 0, .int (-2)]) ht5
    generalize upd H4 t5 (HO.tup [.str "down", .int 0, .int (-2)]) = H5 at a5 b5 ⊢
    have sS5 := sS4.trans b5
    refine ⟨(by show 4 ≤ sizeLine; decide), fun t6 ht6 => ?_⟩
    have a6 := pieNew a5 (o := HO.tup [.str "every", .int 1, .int 2, .int 3]) ht6 (.inr upd_same) (Nat.le_of_ble_eq_true rfl) rfl rfl
    have b6 := same_upd (o := HO.tup [.str "every", .int 1, .int 2, .int 3]) ht6
    generalize upd H5 t6 (HO.tup [.str "every", .int 1, .int 2, .int 3]) = H6 at a6 b6 ⊢
    have sS6 := sS5.trans b6
    refine ⟨(by show 6 ≤ sizeLine; decide), fun L0 hL0 => ?_⟩
    have b7 := same_upd (o := HO.lst [.ref t1, .ref t2, .ref t3, .ref t4, .ref t5, .ref t6]) hL0
    have l7 : (upd H6 L0 (HO.lst [.ref t1, .ref t2, .ref t3, .ref t4, .ref t5, .ref t6])) L0 = some (.lst [.ref t1, .ref t2, .ref t3, .ref t4, .ref t5, .ref t6]) := upd_same
    have w7 : ∀ v ∈ ([.ref t1, .ref t2, .ref t3, .ref t4, .ref t5, .ref t6] : List V), PieV (upd H6 L0 (HO.lst [.ref t1, .ref t2, .ref t3, .ref t4, .ref t5, .ref t6])) v false := fun v hv => (a6 v hv).same b7
    generalize upd H6 L0 (HO.lst [.ref t1, .ref t2, .ref t3, .ref t4, .ref t5, .ref t6]) = H7 at b7 l7 w7 ⊢
    have sS7 := sS6.trans b7
    refine ⟨_, rfl, ?_⟩
    have q1_0 : ∀ v ∈ ([] : List V), PieV H7 v false := fun v hv => nomatch hv
    refine ⟨(by show 3 ≤ sizeLine; decide), fun t8 ht8 => ?_⟩
    have a8 := pieNew q1_0 (o := HO.tup [.str "none", .int 1, .int 2]) ht8 (.inr upd_same) (Nat.le_of_ble_eq_true rfl) rfl rfl
    have b8 := same_upd (o := HO.tup [.str "none", .int 1, .int 2]) ht8
    generalize upd H7 t8 (HO.tup [.str "none", .int 1, .int 2]) = H8 at a8 b8 ⊢
    have sS8 := sS7.trans b8
    have rS8 := b8 _ _ l7
    have uS8 : ∀ v ∈ _, PieV H8 v false := fun v hv => (w7 v hv).same b8
    refine ⟨(by show 2 ≤ sizeLine; decide), fun t9 ht9 => ?_⟩
    have a9 := pieNew a8 (o := HO.tup [.str "One", .int 1]) ht9 (.inr upd_same) (Nat.le_of_ble_eq_true rfl) rfl rfl
    have b9 := same_upd (o := HO.tup [.str "One", .int 1]) ht9
    generalize upd H8 t9 (HO.tup [.str "One", .int 1]) = H9 at a9 b9 ⊢
    have sS9 := sS8.trans b9
    have rS9 := b9 _ _ rS8
    have uS9 : ∀ v ∈ _, PieV H9 v false := fun v hv => (uS8 v hv).same b9
    refine ⟨(by show 0 ≤ sizeLine; decide), fun t10 ht10 => ?_⟩
    have a10 := pieNew a9 (o := HO.tup []) ht10 (.inr upd_same) (Nat.le_of_ble_eq_true rfl) rfl rfl
    have b10 := same_upd (o := HO.tup []) ht10
    generalize upd H9 t10 (HO.tup []) = H10 at a10 b10 ⊢
    have sS10 := sS9.trans b10
    have rS10 := b10 _ _ rS9
    have uS10 : ∀ v ∈ _, PieV H10 v false := fun v hv => (uS9 v hv).same b10
    have q1_4 := pieAdd a10 (Same.refl _) (show PieV H10 (.non) false from .non)
    have q1_5 := pieAdd q1_4 (Same.refl _) (show PieV H10 (.int 5) false from .int 5)
    have q1_6 := pieAdd q1_5 (Same.refl _) (show PieV H10 (.str "one") false from .str "one")
    refine ⟨(by show 2 ≤ sizeLine; decide), fun t14 ht14 => ?_⟩
    have a14 := pieNew q1_6 (o := HO.tup [.str "one", .str "1"]) ht14 (.inr upd_same) (Nat.le_of_ble_eq_true rfl) rfl rfl
    have b14 := same_upd (o := HO.tup [.str "one", .str "1"]) ht14
    generalize upd H10 t14 (HO.tup [.str "one", .str "1"]) = H14 at a14 b14 ⊢
    have sS14 := sS10.trans b14
    have rS14 := b14 _ _ rS10
    have uS14 : ∀ v ∈ _, PieV H14 v false := fun v hv => (uS10 v hv).same b14
    refine ⟨(by show 2 ≤ sizeLine; decide), fun t15 ht15 => ?_⟩
    have a15 := pieNew a14 (o := HO.tup [.str "one", .bl true]) ht15 (.inr upd_same) (Nat.le_of_ble_eq_true rfl) rfl rfl
    have b15 := same_upd (o := HO.tup [.str "one", .bl true]) ht15
    generalize upd H14 t15 (HO.tup [.str "one", .bl true]) = H15 at a15 b15 ⊢
    have sS15 := sS14.trans b15
    have rS15 := b15 _ _ rS14
    have uS15 : ∀ v ∈ _, PieV H15 v false := fun v hv => (uS14 v hv).same b15
    refine ⟨(by show 8 ≤ sizeLine; decide), fun L1 hL1 => ?_⟩
    have b16 := same_upd (o := HO.lst [.ref t8, .ref t9, .ref t10, .non, .int 5, .str "one", .ref t14, .ref t15]) hL1
    have l16 : (upd H15 L1 (HO.lst [.ref t8, .ref t9, .ref t10, .non, .int 5, .str "one", .ref t14, .ref t15])) L1 = some (.lst [.ref t8, .ref t9, .ref t10, .non, .int 5, .str "one", .ref t14, .ref t15]) := upd_same
    have w16 : ∀ v ∈ ([.ref t8, .ref t9, .ref t10, .non, .int 5, .str "one", .ref t14, .ref t15] : List V), PieV (upd H15 L1 (HO.lst [.ref t8, .ref t9, .ref t10, .non, .int 5, .str "one", .ref t14, .ref t15])) v false := fun v hv => (a15 v hv).same b16
    generalize upd H15 L1 (HO.lst [.ref t8, .ref t9, .ref t10, .non, .int 5, .str "one", .ref t14, .ref t15]) = H16 at b16 l16 w16 ⊢
    have sS16 := sS15.trans b16
    have r16 := b16 _ _ rS15
    have u16 : ∀ v ∈ _, PieV H16 v false := fun v hv => (uS15 v hv).same b16
    refine ⟨L0, L1, _, _, rfl, rfl, r16, l16, (by show 14 ≤ sizeLine; decide), fun M1 hM1 => ?_⟩
    have c17 := catNew r16 l16 u16 w16 hM1
    obtain ⟨b17, l17, w17⟩ := c17
    revert b17 l17 w17
    generalize upd H16 M1 _ = H17
    intro b17 l17 w17
    have sS17 := sS16.trans b17
    refine ⟨_, rfl, ?_⟩
    have q2_0 : ∀ v ∈ ([] : List V), PieV H17 v false := fun v hv => nomatch hv
    refine ⟨(by show 3 ≤ sizeLine; decide), fun t18 ht18 => ?_⟩
    have a18 := pieNew q2_0 (o := HO.tup [.str "up", .int 1, .bl true]) ht18 (.inr upd_same) (Nat.le_of_ble_eq_true rfl) rfl rfl
    have b18 := same_upd (o := HO.tup [.str "up", .int 1, .bl true]) ht18
    generalize upd H17 t18 (HO.tup [.str "up", .int 1, .bl true]) = H18 at a18 b18 ⊢
    have sS18 := sS17.trans b18
    have rS18 := b18 _ _ l17
    have uS18 : ∀ v ∈ _, PieV H18 v false := fun v hv => (w17 v hv).same b18
    refine ⟨(by show 3 ≤ sizeLine; decide), fun t19 ht19 => ?_⟩
    have a19 := pieNew a18 (o := HO.tup [.str "up", .non, .int 2]) ht19 (.inr upd_same) (Nat.le_of_ble_eq_true rfl) rfl rfl
    have b19 := same_upd (o := HO.tup [.str "up", .non, .int 2]) ht19
    generalize upd H18 t19 (HO.tup [.str "up", .non, .int 2]) = H19 at a19 b19 ⊢
    have sS19 := sS18.trans b19
    have rS19 := b19 _ _ rS18
    have uS19 : ∀ v ∈ _, PieV H19 v false := fun v hv => (uS18 v hv).same b19
    refine ⟨(by show 3 ≤ sizeLine; decide), fun t20 ht20 => ?_⟩
    have a20 := pieNew a19 (o := HO.tup [.str "every", .int 1, .str "2"]) ht20 (.inr upd_same) (Nat.le_of_ble_eq_true rfl) rfl rfl
    have b20 := same_upd (o := HO.tup [.str "every", .int 1, .str "2"]) ht20
    generalize upd H19 t20 (HO.tup [.str "every", .int 1, .str "2"]) = H20 at a20 b20 ⊢
    have sS20 := sS19.trans b20
    have rS20 := b20 _ _ rS19
    have uS20 : ∀ v ∈ _, PieV H20 v false := fun v hv => (uS19 v hv).same b20
    refine ⟨(by show 2 ≤ sizeLine; decide), fun t21 ht21 => ?_⟩
    have a21 := pieNew a20 (o := HO.tup [.int 1, .str "one"]) ht21 (.inr upd_same) (Nat.le_of_ble_eq_true rfl) rfl rfl
    have b21 := same_upd (o := HO.tup [.int 1, .str "one"]) ht21
    generalize upd H20 t21 (HO.tup [.int 1, .str "one"]) = H21 at a21 b21 ⊢
    have sS21 := sS20.trans b21
    have rS21 := b21 _ _ rS20
    have uS21 : ∀ v ∈ _, PieV H21 v false := fun v hv => (uS20 v hv).same b21
    refine ⟨(by show 4 ≤ sizeLine; decide), fun L2 hL2 => ?_⟩
    have b22 := same_upd (o := HO.lst [.ref t18, .ref t19, .ref t20, .ref t21]) hL2
    have l22 : (upd H21 L2 (HO.lst [.ref t18, .ref t19, .ref t20, .ref t21])) L2 = some (.lst [.ref t18, .ref t19, .ref t20, .ref t21]) := upd_same
    have w22 : ∀ v ∈ ([.ref t18, .ref t19, .ref t20, .ref t21] : List V), PieV (upd H21 L2 (HO.lst [.ref t18, .ref t19, .ref t20, .ref t21])) v false := fun v hv => (a21 v hv).same b22
    generalize upd H21 L2 (HO.lst [.ref t18, .ref t19, .ref t20, .ref t21]) = H22 at b22 l22 w22 ⊢
    have sS22 := sS21.trans b22
    have r22 := b22 _ _ rS21
    have u22 : ∀ v ∈ _, PieV H22 v false := fun v hv => (uS21 v hv).same b22
    refine ⟨M1, L2, _, _, rfl, rfl, r22, l22, (by show 18 ≤ sizeLine; decide), fun M2 hM2 => ?_⟩
    have c23 := catNew r22 l22 u22 w22 hM2
    obtain ⟨b23, l23, w23⟩ := c23
    revert b23 l23 w23
    generalize upd H22 M2 _ = H23
    intro b23 l23 w23
    have sS23 := sS22.trans b23
    refine ⟨_, rfl, ?_⟩
    have q3_0 : ∀ v ∈ ([] : List V), PieV H23 v false := fun v hv => nomatch hv
    refine ⟨(by show 1 ≤ sizeLine; decide), fun t24 ht24 => ?_⟩
    have a24 := pieNew q3_0 (o := HO.lst [.str "one"]) ht24 (.inl upd_same) (Nat.le_of_ble_eq_true rfl) rfl rfl
    have b24 := same_upd (o := HO.lst [.str "one"]) ht24
    generalize upd H23 t24 (HO.lst [.str "one"]) = H24 at a24 b24 ⊢
    have sS24 := sS23.trans b24
    have rS24 := b24 _ _ l23
    have uS24 : ∀ v ∈ _, PieV H24 v false := fun v hv => (w23 v hv).same b24
    refine ⟨(by show 3 ≤ sizeLine; decide), fun t25 ht25 => ?_⟩
    have a25 := pieNew a24 (o := HO.lst [.str "up", .int 1, .int 0]) ht25 (.inl upd_same) (Nat.le_of_ble_eq_true rfl) rfl rfl
    have b25 := same_upd (o := HO.lst [.str "up", .int 1, .int 0]) ht25
    generalize upd H24 t25 (HO.lst [.str "up", .int 1, .int 0]) = H25 at a25 b25 ⊢
    have sS25 := sS24.trans b25
    have rS25 := b25 _ _ rS24
    have uS25 : ∀ v ∈ _, PieV H25 v false := fun v hv => (uS24 v hv).same b25
    refine ⟨(by show 3 ≤ sizeLine; decide), fun t26 ht26 => ?_⟩
    have a26 := pieNew a25 (o := HO.lst [.str "down", .int 1, .bl true]) ht26 (.inl upd_same) (Nat.le_of_ble_eq_true rfl) rfl rfl
    have b26 := same_upd (o := HO.lst [.str "down", .int 1, .bl true]) ht26
    generalize upd H25 t26 (HO.lst [.str "down", .int 1, .bl true]) = H26 at a26 b26 ⊢
    have sS26 := sS25.trans b26
    have rS26 := b26 _ _ rS25
    have uS26 : ∀ v ∈ _, PieV H26 v false := fun v hv => (uS25 v hv).same b26
    refine ⟨(by show 3 ≤ sizeLine; decide), fun t27 ht27 => ?_⟩
    have a27 := pieNew a26 (o := HO.lst [.str "one", .int 1, .int 1]) ht27 (.inl upd_same) (Nat.le_of_ble_eq_true rfl) rfl rfl
    have b27 := same_upd (o := HO.lst [.str "one", .int 1, .int 1]) ht27
    generalize upd H26 t27 (HO.lst [.str "one", .int 1, .int 1]) = H27 at a27 b27 ⊢
    have sS27 := sS26.trans b27
    have rS27 := b27 _ _ rS26
    have uS27 : ∀ v ∈ _, PieV H27 v false := fun v hv => (uS26 v hv).same b27
    refine ⟨(by show 0 ≤ sizeLine; decide), fun t28 ht28 => ?_⟩
    have a28 := pieNew a27 (o := HO.lst []) ht28 (.inl upd_same) (Nat.le_of_ble_eq_true rfl) rfl rfl
    have b28 := same_upd (o := HO.lst []) ht28
    generalize upd H27 t28 (HO.lst []) = H28 at a28 b28 ⊢
    have sS28 := sS27.trans b28
    have rS28 := b28 _ _ rS27
    have uS28 : ∀ v ∈ _, PieV H28 v false := fun v hv => (uS27 v hv).same b28
    refine ⟨(by show 2 ≤ sizeLine; decide), fun t29 ht29 => ?_⟩
    have a29 := pieNew a28 (o := HO.lst [.str "every", .int 1]) ht29 (.inl upd_same) (Nat.le_of_ble_eq_true rfl) rfl rfl
    have b29 := same_upd (o := HO.lst [.str "every", .int 1]) ht29
    generalize upd H28 t29 (HO.lst [.str "every", .int 1]) = H29 at a29 b29 ⊢
    have sS29 := sS28.trans b29
    have rS29 := b29 _ _ rS28
    have uS29 : ∀ v ∈ _, PieV H29 v false := fun v hv => (uS28 v hv).same b29
    refine ⟨(by show 6 ≤ sizeLine; decide), fun L3 hL3 => ?_⟩
    have b30 := same_upd (o := HO.lst [.ref t24, .ref t25, .ref t26, .ref t27, .ref t28, .ref t29]) hL3
    have l30 : (upd H29 L3 (HO.lst [.ref t24, .ref t25, .ref t26, .ref t27, .ref t28, .ref t29])) L3 = some (.lst [.ref t24, .ref t25, .ref t26, .ref t27, .ref t28, .ref t29]) := upd_same
    have w30 : ∀ v ∈ ([.ref t24, .ref t25, .ref t26, .ref t27, .ref t28, .ref t29] : List V), PieV (upd H29 L3 (HO.lst [.ref t24, .ref t25, .ref t26, .ref t27, .ref t28, .ref t29])) v false := fun v hv => (a29 v hv).same b30
    generalize upd H29 L3 (HO.lst [.ref t24, .ref t25, .ref t26, .ref t27, .ref t28, .ref t29]) = H30 at b30 l30 w30 ⊢
    have sS30 := sS29.trans b30
    have r30 := b30 _ _ rS29
    have u30 : ∀ v ∈ _, PieV H30 v false := fun v hv => (uS29 v hv).same b30
    refine ⟨M2, L3, _, _, rfl, rfl, r30, l30, (by show 24 ≤ sizeLine; decide), fun M3 hM3 => ?_⟩
    have c31 := catNew r30 l30 u30 w30 hM3
    obtain ⟨b31, l31, w31⟩ := c31
    revert b31 l31 w31
    generalize upd H30 M3 _ = H31
    intro b31 l31 w31
    have sS31 := sS30.trans b31
    have penZ := pen.same sS31
    refine ⟨_, rfl, _, rfl, d, l, a, .ref M3, rfl, penZ, ha, .inl ⟨M3, _, rfl, penZ.dne l31, l31, (fun z => nomatch z), (by show 24 ≤ 1000; decide), fun x a2 H3 hx g1 g2 pen3 b3 => ?_⟩⟩
    exact k x a2 H3 g1 (by omega) pen3 ((But.same sS31).trans b3) ((w31 x hx).but penZ b3)
end
end Wd
end
section
set_option Elab.async false
set_option linter.all false
set_option maxRecDepth 100000
set_option maxHeartbeats 2000000
set_option pp.maxSteps 600
/-! try: .. except A as e: .. except B as e: .. (several clauses, each with a name) -/
namespace Wd
open PySem PySem.Spec PyProof.Rows L2
/-- what the clauses wish, one after the other; slot i is the name's -/
def wManyAs (K : PySem.W.Frag) (i : Nat) (Wout : WX) (D : Ends) : List (Value × (Addr → Value → Option Addr → TS)) → WX
  | [] => Wout
  | (c, ts) :: r => wAs K c i ts (wManyAs K i Wout D r) D
inductive HdsAs (X : Cx) (i : Nat) (n : Str) : List ExceptHandler → List (Value × (Addr → Value → Option Addr → TS)) → Prop
  | nil : HdsAs X i n [] []
  | cons {x : Str} {c : Value} {ts : Addr → Value → Option Addr → TS} {b₀ : Stmt} {suite : List Stmt} {np pos' : Pos} {hds : List ExceptHandler} {l : List (Value × (Addr → Value → Option Addr → TS))} (hc : Names X x c)
      (hsu : ∀ (a : Addr) (oe : Obj) (cls : Value) (d : Option Addr) (pn : List (Addr × Obj)), Zc cls d oe → (∃ vs, oe.data = .fields vs) → PSs (X.suite a ((a, oe) :: pn)) (b₀ :: suite) (ts a cls d)) (r : HdsAs X i n hds l) :
      HdsAs X i n (.ExceptHandler (some (.Name x np)) (some n) (b₀ :: suite) pos' :: hds) ((c, ts) :: l)
section
variable {X : Cx} {n : Str} {i : Nat} {body : List Stmt} {h₀ : ExceptHandler} {hds : List ExceptHandler} {l : List (Value × (Addr → Value → Option Addr → TS))} {pos : Pos} {tb : WX → TS} {Wout : WX}
theorem ps_try_manyAs (hs : X.stack = X.env :: X.outer) (hf : X.env.frame = some X.env.locals) (hN : X.N.Nodup) (hi : X.N[i]? = some n) (hln : X.env.kindOf n = some .local) (tk : Takes X Wout)
    (hb : ∀ (W : WX) (pn : List (Addr × Obj)) (xe : Value → Shared → Prop), Takes (X.tr pn xe) W → PassesOwn (model X.prog X.w) X.A X.env xe → PSs (X.tr pn xe) body (tb W))
    (hh : HdsAs X i n (h₀ :: hds) l) : PS X (.Try body (h₀ :: hds) [] [] pos) (fun D σ H => tb (wManyAs X.K i Wout D l) D σ H) := by
  refine ⟨fun pins s σ H D I h => ?_⟩
  have ok := I.ok
  have hfr : X.A.frames = some (X.env :: X.outer) := by rw [ok.frames, hs]
  have hloc : Loc X.env.scope n := .inl hln
  refine wpAny_Try_except ?_
  refine wpAny_mono ((hb (wManyAs X.K i Wout D l) (X.pn ++ pins) (fun e s₁ => wpAny (model X.prog X.w) X.A (noteFrame e X.env) (fun _ s₂ => wpAny (model X.prog X.w) X.A (setFlight e none) (fun _ s₃ =>
    wpAny (model X.prog X.w) X.A (handleBy e X.env (h₀ :: hds)) (SP X pins D) X.xe s₃) X.xe s₂) X.xe s₁) (fun u s' xx => ?_) PassesOwn.looking).run [] s σ H D (I.toTry _) h) (fun f s1 hsp => ?_) (fun e s1 he => he)
  · -- the catch
    obtain ⟨a, B, sI, pins', σ', H', cls, d, rfl, J', nb, up, sky, na, os, ag, w⟩ := xx
    have J : Inv X pins σ' H' sI := J'.ofTry ok
    have sky' : Sky B (X.env :: X.outer) a (Zc cls d) X.env.locals s'.heap := by rw [← hs]; exact sky
    show wpAny (model X.prog X.w) X.A (noteFrame (.ref a) X.env) _ _ _
    refine Sky.land Zc.steady hfr hf sky' fun h3 fl3 up3 => ?_
    have J3 : Inv X pins σ' H' { s' with heap := h3 } := J.landed nb fl3.1 (up.trans up3) os ag
    obtain ⟨oe3, vs3, he3, hz3, hd3⟩ := fl3.there
    have notFr : ∀ {h : Heap} {o : Obj} {vs : Array Value}, h.FunFrames B (X.env :: X.outer) → h.get? a = some o → o.data = .fields vs → a ∉ frs (X.env :: X.outer) := fun {h o vs} ff e dd hm => by
      obtain ⟨_, o', e', hnf⟩ := ff.mem hm
      rw [e] at e'; cases e'
      exact hnf _ dd
    have nfr := notFr fl3.2.2.1 he3 hd3
    have nL : a ≠ X.env.locals := fun z => nfr (List.mem_filterMap.mpr ⟨X.env, List.mem_cons_self, by rw [hf, z]⟩)
    have nF : a ∉ X.fs := fun hm => by
      obtain ⟨e, he, q⟩ := List.mem_filterMap.mp hm
      exact nfr (List.mem_filterMap.mpr ⟨e, List.mem_cons_of_mem _ he, q⟩)
    have S3 := J3.suite he3 hd3 na nL nF
    have go : ∀ {hds' : List ExceptHandler} {l' : List (Value × (Addr → Value → Option Addr → TS))}, HdsAs X i n hds' l' → wManyAs X.K i Wout D l' cls d σ' H' →
        wpAny (model X.prog X.w) X.A (handleBy (.ref a) X.env hds') (SP X pins D) X.xe { s' with heap := h3 } := by
      intro hds' l' hk
      induction hk with
      | nil =>
        intro w
        refine wpAny_handleBy_nil ?_
        obtain ⟨k1, k2, k3, oe, vs, T, oT, ts', he, hz, hd, h1, hr⟩ := id fl3
        unfold PySem.passOn
        refine wpAny_bind (wpAny_field he hd h1 ?_)
        rw [if_neg (show ¬ ((Value.ref T == Value.none) = true) from by simp)]
        have fin : wpAny (model X.prog X.w) X.A (setFlight (.ref a) X.env.frame) (fun _ s4 => wpAny (model X.prog X.w) X.A (throw (.ref a) : Sem Flow) (SP X pins D) X.xe s4) X.xe { s' with heap := h3 } := by
          rw [hf]
          refine HandSPX.setFlight_upZ fl3 fun h4 hh4 up4 => wpAny_throw (tk _ _ ?_)
          exact ⟨a, B, sI, pins, σ', H', cls, d, rfl, J, nb, (up.trans up3).trans up4, .inr (.inr (by rw [hs]; exact hh4)), na, os, ag, w⟩
        first
          | exact wpAny_bind (wpAny_pure (wpAny_bind fin))
          | exact wpAny_bind fin
      | @cons x c ts b₀ suite np pos' hds2 l2 hc hsu r ih =>
        intro w
        obtain ⟨b, hb1, hyes, hno⟩ := w
        refine wpAny_handleBy_cons (codeAny_handlers_test ?_) (by intro q; cases q)
        have LT : PySem.W.Looks (model X.prog X.w) h3 (typeOf (.ref a)) cls := fun A Q E s k q => wpAny_typeOf_ref (k _ _ he3) (by rw [hz3.1]; exact q)
        have LM := PySem.W.exm_one (M := model X.prog X.w) (J3.kIn) LT hb1
        have test : ∀ {Q : Value → Shared → Prop} {E : Value → Shared → Prop}, Q c { s' with heap := h3 } → wpAny (model X.prog X.w) (X.A.mark (some (.ref a))) (eval (.Name x np) X.env) Q E { s' with heap := h3 } := fun {Q E} q => by
          obtain ⟨hg, hdbg, hm | ⟨hm, hv, hnn⟩⟩ := hc
          · exact ld_glob (X := X.suite a ((a, oe3) :: (X.pn ++ pins))) S3 hg hm q hdbg
          · exact ld_blt (X := X.suite a ((a, oe3) :: (X.pn ++ pins))) S3 hg hm hv q hnn hdbg
        refine test (LM.here ?_)
        cases b with
        | true =>
          refine codeAny_handlers_suite_as ?_
          refine HandSPX.lands_againZ fl3 fun h4 fl4 up4 => ?_
          have J4 : Inv X pins σ' H' { s' with heap := h4 } := J.landed nb fl4.1 ((up.trans up3).trans up4) os ag
          obtain ⟨oe4, vs4, he4, hz4, hd4⟩ := fl4.there
          have S4 := J4.suite he4 hd4 na nL nF
          refine store_ok (X := X.suite a ((a, oe4) :: (X.pn ++ pins))) (v := .ref a) S4 hN hi hloc rfl (fun s5 S5 => ?_) (.inr hln)
          refine wpAny_mono ((hsu a oe4 cls d (X.pn ++ pins) hz4 ⟨_, hd4⟩).run [] s5 _ H' _ S5 (hyes rfl a na)) (fun f s6 hsp => ?_) (fun _ _ z => False.elim z)
          have end_ : ∀ {σ6 : L2.St} {H6 : Hp} {Q : Shared → Prop}, Inv (X.suite a ((a, oe4) :: (X.pn ++ pins))) [] σ6 H6 s6 → (∀ s7, Inv X pins (σ6.set i none) H6 s7 → Q s7) →
              wpAny (model X.prog X.w) X.A (do bindName X.env n .none; unbindBehindTheSuite X.env n pos') (fun _ s7 => Q s7) X.xe s6 := fun {σ6 H6 Q} S6 hq => gone_ok (S6.unsuite ok) hN hi hln hq
          cases f with
          | next =>
            obtain ⟨σ6, H6, S6, q6⟩ := hsp
            exact end_ S6 fun s7 J7 => ⟨_, _, J7, q6⟩
          | brk =>
            obtain ⟨σ6, H6, S6, q6⟩ := hsp
            exact end_ S6 fun s7 J7 => ⟨_, _, J7, q6⟩
          | cont =>
            obtain ⟨σ6, H6, S6, q6⟩ := hsp
            exact end_ S6 fun s7 J7 => ⟨_, _, J7, q6⟩
          | ret u =>
            obtain ⟨v6, σ6, H6, S6, r6, q6⟩ := hsp
            exact end_ S6 fun s7 J7 => ⟨_, _, _, J7, r6, q6⟩
        | false =>
          show wpAny _ X.A (handleBy (.ref a) X.env hds2) _ _ _
          exact ih (hno rfl)
    exact go hh w
  · cases f with
    | next =>
      obtain ⟨σ', H', J', q⟩ := hsp
      exact wpAny_execs_nil ⟨σ', H', J'.ofTry ok, q⟩
    | brk =>
      obtain ⟨σ', H', J', q⟩ := hsp
      exact ⟨σ', H', J'.ofTry ok, q⟩
    | cont =>
      obtain ⟨σ', H', J', q⟩ := hsp
      exact ⟨σ', H', J'.ofTry ok, q⟩
    | ret u =>
      obtain ⟨v, σ', H', J', r, q⟩ := hsp
      exact ⟨v, σ', H', J'.ofTry ok, r, q⟩
/-- a wish for frames of n slots alone -/
theorem Takes.len {W : WX} {m : Nat} (tk : Takes X W) (hn : X.N.length = m) : Takes X (fun cls d σ H => σ.length = m → W cls d σ H) := fun u s' ⟨a, B, sI, pins, σ, H, cls, d, e, I, nb, up, sky, na, os, ag, w⟩ =>
  tk u s' ⟨a, B, sI, pins, σ, H, cls, d, e, I, nb, up, sky, na, os, ag, w (I.len.trans hn)⟩
end
section
open LamX
variable {X : Cx}
/-- what the called lambda lets out is wished at frames of n slots; the clauses l then answer -/
def TMet (K : PySem.W.Frag) (i n : Nat) (l : List (Value × (Addr → Value → Option Addr → TS))) : (XK → Hp → VK → Prop) → Hp → VK → Prop := fun tl H Q =>
  tl (fun cls d H' => ∀ σ : L2.St, σ.length = n → wManyAs K i (fun _ _ _ _ => False) { nx := fun _ H' => Q .non H', rt := Q } l cls d σ H') H Q
/-- try: return a() / except A as e: .. / except B as e: .. -/
theorem met_gives {Ng : List Str} {x a e q : Str} {sg : Scope} {g : Addr} {cdg : Value} {i n : Nat} {h₀ : ExceptHandler} {hds : List ExceptHandler} {l : List (Value × (Addr → Value → Option Addr → TS))} {p1 p2 p3 p8 : Pos}
    (hn : Ng.length = n) (hN : Ng.Nodup) (hi : Ng[i]? = some e) (hln : sg.names.lookup e = some .local) (h0 : ∀ f : Addr, (L2.start Ng [V.ref f])[0]? = some (some (V.ref f)))
    (hh : ∀ (s : Shared) (H : Hp), HdsAs (cxOf C8.CX0 X.prog X.w X.K X.mg X.base Ng x sg g cdg X.A X.stack s H C8.E0).nox i e (h₀ :: hds) l) :
    GivesTo X Ng x sg g cdg [.Try [.Return (some (.Call (.Name a p1) [] [] p2)) p3] (h₀ :: hds) [] [] p8] a q (TMet X.K i n l) := by
  intro f c' s H Q tl act hc h
  refine ⟨_, pss_one (ps_try_manyAs (X := (cxOf C8.CX0 X.prog X.w X.K X.mg X.base Ng x sg g cdg X.A X.stack s H C8.E0).nox) (n := e) (i := i) (Wout := fun _ _ _ _ => False)
      (tb := fun W D σ H => ∃ Ech : XK, (∀ cls d H', Ech cls d H' → ∀ σ' : L2.St, σ'.length = n → W cls d σ' H') ∧ σ[0]? = some (some (.ref f)) ∧ H c' = some (CodeO c' q) ∧ tl Ech H D.rt)
      rfl rfl hN hi hln L2.takes0 (fun W pn xe tk _ => ?_) (hh s H)), ?_⟩
  · refine ⟨fun pins s' σ H' D I h' => ?_⟩
    obtain ⟨Ech, hW, h1, h2, h3⟩ := h'
    have hp := act (fun cls d σ H => σ.length = n → W cls d σ H) pn xe Ech p1 p2 (Takes.len tk hn) fun cls d σ' H' z e => hW cls d H' z σ' e
    have hq := pss_one (ps_ret (pos := p3) hp)
    exact hq.run pins s' σ H' D I ⟨h1, h2, h3⟩
  · exact ⟨fun cls d H' => ∀ σ : L2.St, σ.length = n → wManyAs X.K i (fun _ _ _ _ => False) { nx := fun _ H' => Q .non H', rt := Q } l cls d σ H', fun cls d H' z σ' e => z σ' e, h0 f, hc, h⟩
end
end Wd
end
section
set_option Elab.async false
set_option linter.all false
set_option maxRecDepth 100000
set_option maxHeartbeats 2000000
set_option pp.maxSteps 600
/-! ### defs that make lambdas -/
namespace Wd
open PySem PySem.Spec PyProof.Rows L2 LamX
/-- a def whose code object is told -/
theorem funD_okL {P : Program} {w : World} {K : PySem.W.Frag} {mg : Str → Option Value} {base : Heap} {x qual : Str} {params : Arguments} {body : List Stmt} {scope : Scope} {dvs : List V} {kws : List (Str × V)} {p : He.Defn} {fd : FuncData}
    {CX : CXT} {N ps : List Str} {k : Nat} {sp : Sp} (F : FunD K x qual params body scope dvs kws (He.fAd K p) fd) (S : FnScope N ps scope) (len : ∀ vs H Q E, sp vs H Q E → vs.length = ps.length)
    (hbody : ∀ (cdv : Value) (A : Around) (outer : List Env) (s : Shared) (H : Hp) (vs : List V) (Q : VK) (E : XK), cdv = .ref (He.cT K p).1 → Room k (A.deeper (envOfC qual scope s.heap.objs.size (He.fAd K p) cdv)) → sp vs H Q E →
      ∃ t, PSs (cxOf CX P w K mg base N qual scope (He.fAd K p) cdv A outer s H E) body t ∧ t { nx := fun _ H' => Q .non H', rt := Q } (L2.start N vs) H) : FnOk P w K mg base CX (k + 1) (He.fAd K p) fd ps sp := by
  obtain ⟨oc, od, dV, kV, doc, pm, an, cdv, ct, osl, rfl, lk, hcd, _, _⟩ := F.ex
  obtain ⟨c, ec⟩ := He.codeIn_ref hcd
  have e1 : He.codeOf K p = c := He.codeOf_eq lk (by subst ec; rfl)
  refine fn_of lk hcd S len fun A outer s H vs Q E hr hsp => hbody cdv A outer s H vs Q E ?_ hr hsp
  show cdv = .ref (He.codeOf K p)
  rw [e1, ec]
/-- g(lambda: body), g a def that is told by FunD -/
theorem pe_lamF {X : Cx} {K : PySem.W.Frag} {T : List (Addr × Str)} {TT : (XK → Hp → VK → Prop) → Hp → VK → Prop} {x a : Str} {g c P : Addr} {k : Nat} {pg : Arguments} {bg : List Stmt} {sg : Scope} {fdg : FuncData} {Ng : List Str}
    {params : Arguments} {body : Expr} {scope : Scope} {t : XK → TE} {p lpos pos : Pos} (hK : X.K = K) (F : FunD K x x pg bg sg [] [] g fdg) (hg : Gl X x) (hm : X.mg x = some (.ref g))
    (hb : ∀ (kV doc pm : Value) (an : Option Addr) (cdv ct : Value) (us : List Value), us.length = [a].length → bindArgs (PySem.W.fnOf x x pg bg sg .none kV doc pm an cdv ct) ⟨us, []⟩ = pure ([a].zip us)) (Sg : FnScope Ng [a] sg) (hNg : Ng[0]? = some a) (hva : Vis sg a)
    (hG : ∀ cdv, GivesTo X Ng x sg g cdv bg a (X.env.qual ++ "<lambda>") TT)
    (TB : TabB X.base X.mg c P) (hcode : X.env.code = .ref c) (hmT : (P, X.env.qual ++ "<lambda>") ∈ T) (hu : ∀ p ∈ T, p.1 = P → p.2 = X.env.qual ++ "<lambda>") (hr : Room (k + 2) X.A) (L : LamS X.env.scope scope) (hdef : defaultsOf params X.env = ([], []))
    (hbind : ∀ (q : Str) (cl : List (Str × Addr)) (pm cv ctv : Value), bindArgs (PySem.W.kla_fn "<lambda>" q params body scope cl pm cv ctv) ⟨[], []⟩ = pure [])
    (hbody : ∀ (A : Around) (outer : List Env) (s : Shared) (H : Hp) (E : XK) (f c' : Addr), Room k (A.deeper (lamEnv X scope s.heap.objs.size f c')) → PE (lamCx X A outer s H E scope f c') body (t E))
    (hdb : (x == ("__debug__" : Str)) = false := by decide) (hd : (a == ("__debug__" : Str)) = false := by decide) (hcd : (a == ("__classdict__" : Str)) = false := by decide) :
    PE X (.Call (.Name x p) [.Lambda params body scope lpos] [] pos) (tLam T TT t) := by
  subst hK
  have hbb := F.bindsN (ps := [a]) hb
  have hkp := F.kp
  obtain ⟨oc, od, dV, kV, doc, pm, an, cdv, ct, osl, rfl, lk, hcd', _, _⟩ := F.ex
  exact pe_lamcall hg hm hkp lk hcd' hbb Sg hNg hva (hG cdv) TB hcode hmT hu hr L hdef hbind hbody hdb hd hcd
/-- all but tables stays: told of what is no table -/
theorem ExtN.at {H H' : Hp} (e : ExtN H H') {a : Addr} {o : HO} (h : H a = some o) (n : ∀ ps, o ≠ .tbl ps) : H' a = some o := e a o h n
end Wd
end
section
set_option Elab.async false
set_option linter.all false
set_option maxRecDepth 100000
set_option maxHeartbeats 2000000
set_option pp.maxSteps 900
/-! ### _law_refusal -/
namespace Wd
open PySem PySem.Spec PyProof.Rows L2 Wt TL NumText LamX
structure Gm (K : PySem.W.Frag) (mg : Str → Option Value) (x : Str) (i : Nat) (g : Addr) (fd : FuncData) : Prop where
  F : FnG K x i g fd
  g : mg x = some (.ref g)
def LT (K : PySem.W.Frag) : List (Addr × Str) := [((He.cT K ("law", none)).2, ("law" : Str) ++ ".<locals>." ++ "<lambda>")]
/-- the clauses' fact -/
structure Tm (K : PySem.W.Frag) (mg : Str → Option Value) (CQ CN : Addr) : Prop where
  np : PySem.W.exmOne K (.ref CN) (.ref CQ) = some false
/-- a tuple is told -/
def AnsE (Q : VK) (H1 : Hp) (vs : List V) : Prop := ∀ p H', Same H1 H' → H1 p = none → H' p = some (.tup vs) → Q (.ref p) H'
/-- what _law_refusal makes of a lambda -/
def TMr (CQ CN : Addr) : (XK → Hp → VK → Prop) → Hp → VK → Prop := fun tl H Q => ∀ E : XK, (∀ H1 v, AnsE Q H1 [.str "piece", v] → Out1 E CQ "index" v H1) → (∀ H1 v, AnsE Q H1 [.str "number", v] → Out1 E CN "number" v H1) → tl E H Q
theorem scRef : FnScope ["_law_ask", "e"] ["_law_ask"] (defScope (top i__law_refusal)) := ⟨rfl, rfl, rfl, by decide +kernel, rfl, by decide +kernel, by decide +kernel⟩
theorem pe_refusal {X : Cx} {K : PySem.W.Frag} {T : List (Addr × Str)} {g c P : Addr} {k : Nat} {fdg : FuncData} {CQ CN : Addr}
    {params : Arguments} {body : Expr} {scope : Scope} {t : XK → TE} {p lpos pos : Pos} (hK : X.K = K) (F : FnG K "_law_refusal" i__law_refusal g fdg) (hg : Gl X "_law_refusal") (hm : X.mg "_law_refusal" = some (.ref g))
    (BQ : Er X.prog X.w K X.mg X.base "BadPiece" "index" CQ) (BN : Er X.prog X.w K X.mg X.base "BadNumber" "number" CN) (M : Tm K X.mg CQ CN)
    (TB : TabB X.base X.mg c P) (hcode : X.env.code = .ref c) (hmT : (P, X.env.qual ++ "<lambda>") ∈ T) (hu : ∀ p ∈ T, p.1 = P → p.2 = X.env.qual ++ "<lambda>") (hr : Room (k + 2) X.A) (L : LamS X.env.scope scope) (hdef : defaultsOf params X.env = ([], []))
    (hbind : ∀ (q : Str) (cl : List (Str × Addr)) (pm cv ctv : Value), bindArgs (PySem.W.kla_fn "<lambda>" q params body scope cl pm cv ctv) ⟨[], []⟩ = pure [])
    (hbody : ∀ (A : Around) (outer : List Env) (s : Shared) (H : Hp) (E : XK) (f c' : Addr), Room k (A.deeper (lamEnv X scope s.heap.objs.size f c')) → PE (lamCx X A outer s H E scope f c') body (t E)) :
    PE X (.Call (.Name "_law_refusal" p) [.Lambda params body scope lpos] [] pos) (tLam T (TMr CQ CN) t) := by
  subst hK
  have XQ : XfC X.K CQ := ⟨BQ.err.ga, BQ.err.gg, BQ.err.be, BQ.err.hd⟩
  have XN : XfC X.K CN := ⟨BN.err.ga, BN.err.gg, BN.err.be, BN.err.hd⟩
  have key : ∃ l, (∀ cdv, GivesTo X ["_law_ask", "e"] "_law_refusal" (defScope (top i__law_refusal)) g cdv (defBody (top i__law_refusal)) "_law_ask" (X.env.qual ++ "<lambda>") (TMet X.K 1 2 l)) ∧ ∀ tl H Q, TMr CQ CN tl H Q → TMet X.K 1 2 l tl H Q := by
    refine ⟨[(.ref CQ, _), (.ref CN, _)], fun cdv => met_gives rfl scRef.nd rfl rfl (fun f => rfl) fun s H => .cons ⟨rfl, by decide, .inl BQ.glo⟩
        (fun a oe cls d pn hz hf => pss_one (ps_ret (pe_tup (pa_cons pe_str (pa_cons (pe_xf XQ BQ.nof hz hf (pv 1)) pa_nil)))))
        (.cons ⟨rfl, by decide, .inl BN.glo⟩
        (fun a oe cls d pn hz hf => pss_one (ps_ret (pe_tup (pa_cons pe_str (pa_cons (pe_xf XN BN.nof hz hf (pv 1)) pa_nil)))))
        .nil), fun tl H Q h => h _ (fun H1 v ans => ?_) fun H1 v ans => ?_⟩
    all_goals
      have two : ∀ σ : L2.St, σ.length = 2 → ∃ x0 x1, σ = [x0, x1] := fun σ hl => match σ, hl with
        | [x0, x1], _ => ⟨x0, x1, rfl⟩
    · intro d H' s' hd hq σ hl
      obtain ⟨x0, x1, rfl⟩ := two σ hl
      refine ⟨true, BQ.exm, fun _ a ha => ?_, fun z => nomatch z⟩
      refine ⟨_, rfl, rfl, rfl, d, _, v, rfl, hq, (by rw [List.lookup_cons, beq_self_eq_true]), (by show 2 ≤ sizeLine; decide), fun p hp => ?_⟩
      exact ans p _ (s'.trans (same_upd hp)) (Same.free s' hp) upd_same
    · intro d H' s' hd hq σ hl
      obtain ⟨x0, x1, rfl⟩ := two σ hl
      refine ⟨false, M.np, (fun z => nomatch z), fun _ => ⟨true, BN.exm, fun _ a ha => ?_, fun z => nomatch z⟩⟩
      refine ⟨_, rfl, rfl, rfl, d, _, v, rfl, hq, (by rw [List.lookup_cons, beq_self_eq_true]), (by show 2 ≤ sizeLine; decide), fun p hp => ?_⟩
      exact ans p _ (s'.trans (same_upd hp)) (Same.free s' hp) upd_same
  obtain ⟨l, hG, imp⟩ := key
  have pe := pe_lamF (T := T) (P := P) (c := c) (k := k) (t := t) (p := p) (lpos := lpos) (pos := pos) rfl F hg hm (fun _ _ _ _ _ _ us hl => match us, hl with | [_], _ => rfl) scRef rfl (.inl rfl) hG TB hcode hmT hu hr L hdef hbind hbody
  exact ⟨fun pins s σ H Q I h => pe.run pins s σ H Q I ⟨h.1, fun H1 e1 t1 => imp _ _ _ (h.2 H1 e1 t1)⟩⟩
end Wd
end
section
set_option Elab.async false
set_option linter.all false
set_option maxRecDepth 100000
set_option maxHeartbeats 4000000
set_option pp.maxSteps 600
/-! ### the law -/
namespace Wd
open PySem PySem.Spec PyProof.Rows L2 Wt TL NumText LamX ClX
theorem tabs_but {T : List (Addr × Str)} {d l : Addr} {a : Int} {H H' : Hp} (p : Pen H d l a) (b : But d H H') (h : Tabs T H) : Tabs T H' := by
  obtain ⟨cs, bb, e1, _⟩ := p
  intro q hq
  obtain ⟨ps, h1, h2, h3⟩ := h q hq
  refine ⟨ps, b _ _ h1 (fun e => by rw [e, e1] at h1; cases h1), h2, fun pos cv hc => ?_⟩
  obtain ⟨c, g1, g2⟩ := h3 pos cv hc
  exact ⟨c, g1, b _ _ g2 (fun e => by rw [e, e1] at g2; cases g2)⟩

/-- a value that is data: what is drawn in a number's place -/
inductive DatV (H : Hp) : V → Prop
  | non : DatV H .non
  | int (n : Int) : DatV H (.int n)
  | bl (b : Bool) : DatV H (.bl b)
  | str (z : Str) (h : PyData.strOk z = true) : DatV H (.str z)
  | tup {a : Addr} (e : H a = some (.tup [.int 2])) : DatV H (.ref a)
  | lst {a : Addr} (e : H a = some (.lst [.int 1])) : DatV H (.ref a)
theorem DatV.map {H H' : Hp} {v : V} (h : DatV H v) (t : ∀ a xs, H a = some (.tup xs) → H' a = some (.tup xs)) (l : ∀ a xs, H a = some (.lst xs) → H' a = some (.lst xs)) : DatV H' v := by
  cases h with
  | non => exact .non
  | int n => exact .int n
  | bl b => exact .bl b
  | str z h => exact .str z h
  | tup e => exact .tup (t _ _ e)
  | lst e => exact .lst (l _ _ e)
theorem DatV.data {K : PySem.W.Frag} {H : Hp} {v : V} (h : DatV H v) : ∃ d, Dp K H v d ∧ d.canLay0 = true ∧ d.depth ≤ 1 := by
  cases h with
  | non => exact ⟨.none, .non, by simp [PyData.canLay0], by simp [PyData.depth]⟩
  | int n => exact ⟨.int n, .int _, by simp [PyData.canLay0], by simp [PyData.depth]⟩
  | bl b => exact ⟨.bool b, .bl _, by simp [PyData.canLay0], by simp [PyData.depth]⟩
  | str z h => exact ⟨.str z, .str _, by simp [PyData.canLay0, h], by simp [PyData.depth]⟩
  | tup e => exact ⟨.tuple [.int 2], .tup (SqT.of e) (.cons (.int _) .nil), by decide +kernel, by decide +kernel⟩
  | lst e => exact ⟨.list [.int 1], .lst (SqL.of e) (.cons (.int _) .nil), by decide +kernel, by decide +kernel⟩
theorem DatV.same {H H' : Hp} {v : V} (h : DatV H v) (e : Same H H') : DatV H' v := h.map (fun _ _ q => e _ _ q) (fun _ _ q => e _ _ q)
theorem DatV.ext {H H' : Hp} {v : V} (h : DatV H v) (e : ExtN H H') : DatV H' v := h.map (fun _ _ q => e _ _ q (fun _ => nofun)) (fun _ _ q => e _ _ q (fun _ => nofun))
theorem DatV.but {d l : Addr} {a : Int} {H H' : Hp} {v : V} (p : Pen H d l a) (b : But d H H') (h : DatV H v) : DatV H' v := h.map (fun _ _ q => keepT p b q) (fun _ _ q => keepL p b q)
theorem DatV.intB {H : Hp} {v : V} (h : DatV H v) (n : ∀ i : Int, v ≠ .int i) : IntB H v false := by
  cases h with
  | non => exact .non
  | int i => exact absurd rfl (n i)
  | bl b => exact .bl b
  | str z h => exact .str z
  | tup e => exact .tup e
  | lst e => exact .lst e
theorem dat_eq {K : PySem.W.Frag} {H : Hp} {t t2 : Addr} {s : Str} {v : V} (e1 : H t = some (.tup [.str s, v])) (e2 : H t2 = some (.tup [.str s, v])) (hs : PyData.strOk s = true) (h : DatV H v) :
    ∃ D, Dp K H (.ref t) D ∧ Dp K H (.ref t2) D ∧ SeqAt.shaped D = true ∧ PyData.eqv D D = true := by
  obtain ⟨d, h1, h2, h3⟩ := h.data (K := K)
  have lay : (PyData.tuple [.str s, d]).canLay0 = true := by simp [PyData.canLay0, PyData.canLayAll0, hs, h2]
  exact ⟨.tuple [.str s, d], .tup (SqT.of e1) (.cons (.str _) (.cons h1 .nil)), .tup (SqT.of e2) (.cons (.str _) (.cons h1 .nil)), sh_of lay (by simp only [PyData.depth, PyData.depthAll]; omega), PySem.SeqAt.eqv_refl _ lay⟩
theorem Pen.extN {d l : Addr} {a : Int} {H H' : Hp} (e : ExtN H H') (h : Pen H d l a) : Pen H' d l a := by
  obtain ⟨cs, b, h1, h2, h3⟩ := h
  exact ⟨cs, b, e _ _ h1 (fun _ => nofun), e _ _ h2 (fun _ => nofun), h3⟩
theorem PcsA.ext {H H' : Hp} {xs : List V} {ps : List Pc} (h : PcsA H xs ps) (e : ExtN H H') : PcsA H' xs ps := All2.mono (fun _ _ ⟨t, e1, z⟩ => ⟨t, e1, e _ _ z (fun _ => nofun)⟩) h
theorem PieV.ext {H H' : Hp} {v : V} {b : Bool} (h : PieV H v b) (s : ExtN H H') : PieV H' v b := by
  cases h with
  | int n => exact .int n
  | bl n => exact .bl n
  | non => exact .non
  | str z => exact .str z
  | seq e f l => exact .seq (e.imp (fun q => s _ _ q (fun _ => nofun)) (fun q => s _ _ q (fun _ => nofun))) f l
theorem nodup_le {α : Type} [DecidableEq α] : ∀ {L M : List α}, L.Nodup → (∀ x ∈ L, x ∈ M) → L.length ≤ M.length
  | [], _, _, _ => Nat.zero_le _
  | x :: L, M, nd, h => by
    obtain ⟨n1, n2⟩ := List.nodup_cons.mp nd
    have hx := h x List.mem_cons_self
    have ih := nodup_le (M := M.erase x) n2 fun y hy => by
      refine (List.mem_erase_of_ne fun e => n1 (by rw [← e]; exact hy)).mpr (h y (List.mem_cons_of_mem _ hy))
    rw [List.length_erase_of_mem hx] at ih
    have := List.length_pos_of_mem hx
    rw [List.length_cons]
    omega
theorem few_of {ps : List Pc} (h : ∀ p ∈ ps, PcD p) : Few ps := fun S nd hS => by
  have sub : S ⊆ (List.range 10).map fun (i : Nat) => (i : Int) := fun k hk => by
    obtain ⟨p, hp, h1, h2⟩ := hS k hk
    have := (h p hp).2.2 h1
    exact List.mem_map.mpr ⟨k.toNat, List.mem_range.mpr (by omega), by omega⟩
  have := nodup_le nd sub
  rw [List.length_map, List.length_range] at this
  omega
theorem same_make {Hb H3 : Hp} {x dx C : Addr} (nx : Hb x = none) (ndx : Hb dx = none) (sx : Sx x (upd (upd Hb dx (.own x)) x (.ins C dx [])) H3) : Same Hb H3 := fun c o z => by
  have c1 := ne_of_none z nx
  have c2 := ne_of_none z ndx
  exact sx c o (by rw [upd_ne c1, upd_ne c2]; exact z) c1
/-- Days(l), l a list of pieces -/
theorem mkDays {K : PySem.W.Frag} {CQ : Addr} {Hb : Hp} {l x dx : Addr} {xs : List V} {ps : List Pc} {Q : VK} {E : XK} (hq : Hb l = some (.lst xs)) (al : PcsA Hb xs ps) (hd : ∀ p ∈ ps, PcD p) (hl : ps.length ≤ 1000) (nx : Hb x = none) (ndx : Hb dx = none)
    (k : ∀ H', Same Hb H' → DayA K H' x ps → Q .non H') : spDaysI K CQ [.ref x, .ref l] (upd (upd Hb dx (.own x)) x (.ins (He.ga K "Days") dx [])) Q E := by
  have mv : ∀ c o, Hb c = some o → (upd (upd Hb dx (.own x)) x (.ins (He.ga K "Days") dx [])) c = some o := fun c o z => by
    rw [upd_ne (ne_of_none z nx), upd_ne (ne_of_none z ndx)]
    exact z
  refine ⟨x, dx, l, xs, rfl, upd_same, .inl (mv _ _ hq), by rw [al.len]; exact hl, .inl ⟨ps, All2.mono (fun _ _ ⟨t, e, z⟩ => ⟨t, e, .inr (mv _ _ z)⟩) al, fun p hp => (hd p hp).good, few_of hd, fun H' sx dA => k H' (same_make nx ndx sx) dA⟩⟩
theorem sameD_refl (ps : List Pc) (n m : Int) : sameD ps ps n m = true := by
  unfold sameD
  rw [List.all_eq_true]
  intro d _
  exact beq_self_eq_true _
theorem sameD_none (ps qs : List Pc) {n m : Int} (h : m < n) : sameD ps qs n m = true := by
  unfold sameD daysR
  rw [show (m + 1 - n).toNat = 0 from by omega]
  rfl
theorem due_same (ps qs : List Pc) (n m : Int) : (!(((daysR n m).map fun d => !decide (V.bl (inPs ps d) = V.bl (inPs qs d))).any id)) = sameD ps qs n m := by
  unfold sameD
  rw [List.any_map, List.not_any_eq_all_not]
  congr 1
  funext d
  show (!(!decide (V.bl (inPs ps d) = V.bl (inPs qs d)))) = (inPs ps d == inPs qs d)
  generalize inPs ps d = a
  generalize inPs qs d = b
  cases a <;> cases b <;> decide
theorem passF {X : Cx} : Passes (L2.CX X.prog X.w) X (fun _ _ _ => False) := fun _ _ _ _ _ _ _ c => by
  obtain ⟨_, _, _, _, _, _, _, _, _, _, _, _, e⟩ := c
  exact e.elim
def spLawT (K : PySem.W.Frag) : Sp := fun vs H Q _ => ∃ (a : Addr) (ns : List Int), vs = [.ref a] ∧ SqL K H a (ns.map V.int) ∧ ns.length ≤ 63 ∧ Tabs (LT K) H ∧ ∀ H', Q (.bl true) H'
/-- Days.same as a static method -/
structure SameS (P : Program) (w : World) (K : PySem.W.Frag) (mg : Str → Option Value) (base : Heap) (CN : Addr) : Prop where
  ex : ∃ (mc : Value) (p g : Addr) (fd : FuncData), CRead K (He.ga K "Days") mc ∧ SMet K (He.ga K "Days") mc "same" p g ∧ FnOk P w K mg base (L2.CX P w) 3 g fd ["one", "other", "low", "high"] (spSame K CN) ∧ PySem.W.keepIn K (.ref g) = true ∧ Binds K fd ["one", "other", "low", "high"] []
section
variable {P : Program} {w : World} {K : PySem.W.Frag} {mg : Str → Option Value} {base : Heap} {f : Addr} {fd : FuncData}
structure DLaw (P : Program) (w : World) (K : PySem.W.Frag) (mg : Str → Option Value) (base : Heap) (CQ CN : Addr) : Prop where
  law_draw : Df P w K mg base CX0 1 "_law_draw" ["_law_pen_here", "_law_many"] spDraw
  law_pick : Df P w K mg base CX0 2 "_law_pick" ["_law_pen_here", "_law_some"] (spPick K)
  law_pen : Df P w K mg base CX0 1 "_law_pen" ["_law_script"] (spPen K)
  law_pieces : Df P w K mg base CX0 3 "_law_pieces" ["_law_pen_here", "_law_many"] spLPieces
  law_no_piece : Df P w K mg base CX0 3 "_law_no_piece" ["_law_pen_here"] spLNoP
  law_in_pieces : Df P w K mg base CX0 2 "_law_in_pieces" ["_law_pieces_here", "_law_day"] spLInPs
  error : ∃ fdg, Gm K mg "_law_refusal" i__law_refusal (He.ga K "_law_refusal") fdg
  any : mg "any" = none
  mkD : Mk K (He.ga K "Days") (He.ma K (He.ga K "Days") "__init__")
  iniD : ∃ fd, FnOk P w K mg base (L2.CX P w) 3 (He.ma K (He.ga K "Days") "__init__") fd ["self", "pieces"] (spDaysI K CQ) ∧ Binds K fd ["self", "pieces"] []
theorem scLaw : FnScope ["_law_script", "_law_pen_here", "_law_lap", "_law_spot", "_law_due", "_law_far", "_law_high", "_law_low", "_law_odd", "_law_one", "_law_other", "_law_pieces_here", "_law_day"] ["_law_script"] (defScope (top i_law)) := ⟨rfl, rfl, rfl, by decide +kernel, rfl, by decide +kernel, by decide +kernel⟩
theorem ok_law {CQ CN : Addr} (F : FnG K "law" i_law (He.fAd K ("law", none)) fd) (T : Tx K mg) (TM : Tm K mg CQ CN) (BQ : Er P w K mg base "BadPiece" "index" CQ) (BN : Er P w K mg base "BadNumber" "number" CN)
    (D : DLaw P w K mg base CQ CN) (SS : SameS P w K mg base CN) (TB : TabB base mg (He.cT K ("law", none)).1 (He.cT K ("law", none)).2) : FnOk P w K mg base CX0 8 (He.fAd K ("law", none)) fd ["_law_script"] (spLawT K) := by
  refine funD_okL F scLaw (fun vs H Q E h => ?_) (fun cdv A outer s H vs Q E ecd hr h => ?_)
  · obtain ⟨a, ns, rfl, _⟩ := h
    rfl
  · obtain ⟨sa, ns, rfl, hs, hz, tabs, k⟩ := h
    have hu64 := hr.units
    obtain ⟨fdD, GD, bD⟩ := D.iniD
    obtain ⟨mcS, pS, gS, fdS, rdS, smS, GS, kpS, bS⟩ := SS.ex
    obtain ⟨fdg, err⟩ := D.error
    have huT : ∀ p ∈ LT K, p.1 = (He.cT K ("law", none)).2 → p.2 = ("law" : Str) ++ ".<locals>." ++ "<lambda>" := fun p hp _ => by rw [List.mem_singleton.mp hp]
    refine ⟨_, PSs.nox (pss_cons (ps_set (i := 1) scLaw.nd rfl (Or.inl rfl) (pe_cd D.law_pen (hr.mono (by decide)) pass0 (pa_cons (pv 0) pa_nil)))
        (pss_cons (ps_for PassesOwn.never rfl (pi_range1 (by rfl) T.range (pa_cons pe_int pa_nil)) (pg_name (i := 2) scLaw.nd rfl (Or.inl rfl)) (pss_cons (ps_set (i := 11) scLaw.nd rfl (Or.inr rfl) (pe_cd D.law_pieces (hr.mono (by decide)) pass0 (pa_cons (pv 1) (pa_cons (pe_cd D.law_draw (hr.mono (by decide)) pass0 (pa_cons (pv 1) (pa_cons pe_int pa_nil))) pa_nil))))
        (pss_cons (ps_set (i := 3) scLaw.nd rfl (Or.inl rfl) (pe_cd D.law_draw (hr.mono (by decide)) pass0 (pa_cons (pv 1) (pa_cons (pe_op op_add (pe_callB call_len (by rfl) T.len PySem.boot_len (pa_cons (pv 11) pa_nil)) pe_int) pa_nil))))
        (pss_cons (ps_set (i := 11) scLaw.nd rfl (Or.inr rfl) (pe_op op_cat (pe_op op_cat (pe_slice sl_list (pv 11) po_none (po_some (pv 3))) (pe_lst (pa_cons (pe_cd D.law_no_piece (hr.mono (by decide)) pass0 (pa_cons (pv 1) pa_nil)) pa_nil))) (pe_slice sl_list (pv 11) (po_some (pv 3)) po_none)))
        (pss_cons (ps_if (pt_cmpR op_eq (pe_cd D.law_draw (hr.mono (by decide)) pass0 (pa_cons (pv 1) (pa_cons pe_int pa_nil))) pe_int (nomark _)) (pss_one (ps_set (i := 11) scLaw.nd rfl (Or.inr rfl) (pe_op op_cat (pv 11) (pe_lst (pa_cons (pe_cd D.law_no_piece (hr.mono (by decide)) pass0 (pa_cons (pv 1) pa_nil)) pa_nil))))) pss_nil)
        (pss_cons (ps_if (pt_cmpR (op_neD hu64) (pe_refusal (T := LT K) (k := 4) rfl err.F rfl err.g BQ BN TM TB ecd List.mem_cons_self huT (hr.mono (by decide)) (lamS_by (by show lamSB (defScope (top i_law)) _ = true; decide +kernel)) rfl (fun _ _ _ _ _ => rfl) (fun A outer s H E f c' hr' => pe_make D.mkD GD (hr'.mono (by decide)) rfl T.Days bD .nil (passes_call (takes_of rfl rfl rfl rfl) (fun _ _ _ _ h => h)) (pa_cons (pv 11) pa_nil))) (pe_tup (pa_cons pe_str (pa_cons (pv 3) pa_nil))) (nomark _)) (pss_one (ps_ret pe_bl)) pss_nil)
        (pss_cons (ps_asg (pe_tup (pa_cons (pe_cd D.law_pieces (hr.mono (by decide)) pass0 (pa_cons (pv 1) (pa_cons (pe_op op_add pe_int (pe_cd D.law_draw (hr.mono (by decide)) pass0 (pa_cons (pv 1) (pa_cons pe_int pa_nil)))) pa_nil))) (pa_cons (pe_cd D.law_pieces (hr.mono (by decide)) pass0 (pa_cons (pv 1) (pa_cons (pe_op op_add pe_int (pe_cd D.law_draw (hr.mono (by decide)) pass0 (pa_cons (pv 1) (pa_cons pe_int pa_nil)))) pa_nil))) pa_nil))) (pg_tup rfl (pgs_cons (pg_name (i := 9) scLaw.nd rfl (Or.inr rfl)) (pgs_cons (pg_name (i := 10) scLaw.nd rfl (Or.inr rfl)) pgs_nil))))
        (pss_cons (ps_if (pt_cmpR op_eq (pe_cd D.law_draw (hr.mono (by decide)) pass0 (pa_cons (pv 1) (pa_cons pe_int pa_nil))) pe_int (nomark _)) (pss_one (ps_set (i := 10) scLaw.nd rfl (Or.inr rfl) (pe_op op_cat (pv 9) (pe_lst (pa_cons (pe_ix ix_list (pv 9) pe_int (fun _ _ => rfl)) pa_nil))))) pss_nil)
        (pss_cons (ps_set (i := 7) scLaw.nd rfl (Or.inr rfl) (pe_op op_sub (pe_cd D.law_draw (hr.mono (by decide)) pass0 (pa_cons (pv 1) (pa_cons pe_int pa_nil))) pe_int))
        (pss_cons (ps_set (i := 6) scLaw.nd rfl (Or.inr rfl) (pe_op op_sub (pe_op op_add (pv 7) (pe_cd D.law_draw (hr.mono (by decide)) pass0 (pa_cons (pv 1) (pa_cons pe_int pa_nil)))) pe_int))
        (pss_cons (ps_set (i := 4) scLaw.nd rfl (Or.inl rfl) (pe_not (pe_callB (cr_any rfl) (by rfl) D.any (by decide +kernel) (pa_cons (pe_lc (own := [("_law_day", 12)]) rfl scLaw.nd (pi_range2 (by rfl) T.range (pa_cons (pv 7) (pa_cons (pe_op op_add (pv 6) pe_int) pa_nil))) (blkOk_by (own := [("_law_day", 12)]) (N := ["_law_script", "_law_pen_here", "_law_lap", "_law_spot", "_law_due", "_law_far", "_law_high", "_law_low", "_law_odd", "_law_one", "_law_other", "_law_pieces_here", "_law_day"]) (sc := defScope (top i_law)) (by decide +kernel)) (fun _ _ _ _ _ => (pg_name (i := 12) scLaw.nd rfl (Or.inl rfl))) (fun _ _ _ _ _ => pts_nil) (fun _ _ _ _ _ => (pe_cmpR op_ne (pe_cd D.law_in_pieces (hr.mono (by decide)) pass0 (pa_cons (pv 9) (pa_cons (pv 12) pa_nil))) (pe_cd D.law_in_pieces (hr.mono (by decide)) pass0 (pa_cons (pv 10) (pa_cons (pv 12) pa_nil))) (nomark _)))) pa_nil))))
        (pss_cons (ps_if (pt_cmpR op_ne (pe_refusal (T := LT K) (k := 4) rfl err.F rfl err.g BQ BN TM TB ecd List.mem_cons_self huT (hr.mono (by decide)) (lamS_by (by show lamSB (defScope (top i_law)) _ = true; decide +kernel)) rfl (fun _ _ _ _ _ => rfl) (fun A outer s H E f c' hr' => (pe_smeth (pe_glob (v := .ref (He.ga K "Days")) rfl T.Days rfl) rdS smS GS kpS bS (hr'.mono (by decide)) (passes_call (takes_of rfl rfl rfl rfl) (fun _ _ _ _ h => h)) (pa_cons (pe_make D.mkD GD (hr'.mono (by decide)) rfl T.Days bD .nil (passes_call (takes_of rfl rfl rfl rfl) (fun _ _ _ _ h => h)) (pa_cons (pv 9) pa_nil)) (pa_cons (pe_make D.mkD GD (hr'.mono (by decide)) rfl T.Days bD .nil (passes_call (takes_of rfl rfl rfl rfl) (fun _ _ _ _ h => h)) (pa_cons (pv 10) pa_nil)) (pa_cons (pv 7) (pa_cons (pv 6) pa_nil))))))) (pv 4) (nomark _)) (pss_one (ps_ret pe_bl)) pss_nil)
        (pss_cons (ps_set (i := 8) scLaw.nd rfl (Or.inr rfl) (pe_cd D.law_pick (hr.mono (by decide)) pass0 (pa_cons (pv 1) (pa_cons (pe_lst (pa_cons pe_non (pa_cons pe_bl (pa_cons pe_str (pa_cons (pe_lst (pa_cons pe_int pa_nil)) (pa_cons (pe_tup (pa_cons pe_int pa_nil)) pa_nil)))))) pa_nil))))
        (pss_cons (ps_if (pt_cmpR (op_neD hu64) (pe_refusal (T := LT K) (k := 4) rfl err.F rfl err.g BQ BN TM TB ecd List.mem_cons_self huT (hr.mono (by decide)) (lamS_by (by show lamSB (defScope (top i_law)) _ = true; decide +kernel)) rfl (fun _ _ _ _ _ => rfl) (fun A outer s H E f c' hr' => (pe_smeth (pe_glob (v := .ref (He.ga K "Days")) rfl T.Days rfl) rdS smS GS kpS bS (hr'.mono (by decide)) (passes_call (takes_of rfl rfl rfl rfl) (fun _ _ _ _ h => h)) (pa_cons (pe_make D.mkD GD (hr'.mono (by decide)) rfl T.Days bD .nil (passes_call (takes_of rfl rfl rfl rfl) (fun _ _ _ _ h => h)) (pa_cons (pv 9) pa_nil)) (pa_cons (pe_make D.mkD GD (hr'.mono (by decide)) rfl T.Days bD .nil (passes_call (takes_of rfl rfl rfl rfl) (fun _ _ _ _ h => h)) (pa_cons (pv 10) pa_nil)) (pa_cons (pv 8) (pa_cons pe_non pa_nil))))))) (pe_tup (pa_cons pe_str (pa_cons (pv 8) pa_nil))) (nomark _)) (pss_one (ps_ret pe_bl)) pss_nil)
        (pss_cons (ps_if (pt_cmpR (op_neD hu64) (pe_refusal (T := LT K) (k := 4) rfl err.F rfl err.g BQ BN TM TB ecd List.mem_cons_self huT (hr.mono (by decide)) (lamS_by (by show lamSB (defScope (top i_law)) _ = true; decide +kernel)) rfl (fun _ _ _ _ _ => rfl) (fun A outer s H E f c' hr' => (pe_smeth (pe_glob (v := .ref (He.ga K "Days")) rfl T.Days rfl) rdS smS GS kpS bS (hr'.mono (by decide)) (passes_call (takes_of rfl rfl rfl rfl) (fun _ _ _ _ h => h)) (pa_cons (pe_make D.mkD GD (hr'.mono (by decide)) rfl T.Days bD .nil (passes_call (takes_of rfl rfl rfl rfl) (fun _ _ _ _ h => h)) (pa_cons (pv 9) pa_nil)) (pa_cons (pe_make D.mkD GD (hr'.mono (by decide)) rfl T.Days bD .nil (passes_call (takes_of rfl rfl rfl rfl) (fun _ _ _ _ h => h)) (pa_cons (pv 10) pa_nil)) (pa_cons (pv 7) (pa_cons (pv 8) pa_nil))))))) (pe_tup (pa_cons pe_str (pa_cons (pv 8) pa_nil))) (nomark _)) (pss_one (ps_ret pe_bl)) pss_nil)
        (pss_cons (ps_set (i := 5) scLaw.nd rfl (Or.inr rfl) (pe_op op_add (pe_op op_add (pv 7) pe_int) (pe_cd D.law_draw (hr.mono (by decide)) pass0 (pa_cons (pv 1) (pa_cons (pe_op op_pow pe_int pe_int) pa_nil)))))
        (pss_cons (ps_if (pt_cmpR (op_neD hu64) (pe_refusal (T := LT K) (k := 4) rfl err.F rfl err.g BQ BN TM TB ecd List.mem_cons_self huT (hr.mono (by decide)) (lamS_by (by show lamSB (defScope (top i_law)) _ = true; decide +kernel)) rfl (fun _ _ _ _ _ => rfl) (fun A outer s H E f c' hr' => (pe_smeth (pe_glob (v := .ref (He.ga K "Days")) rfl T.Days rfl) rdS smS GS kpS bS (hr'.mono (by decide)) (passes_call (takes_of rfl rfl rfl rfl) (fun _ _ _ _ h => h)) (pa_cons (pe_make D.mkD GD (hr'.mono (by decide)) rfl T.Days bD .nil (passes_call (takes_of rfl rfl rfl rfl) (fun _ _ _ _ h => h)) (pa_cons (pv 9) pa_nil)) (pa_cons (pe_make D.mkD GD (hr'.mono (by decide)) rfl T.Days bD .nil (passes_call (takes_of rfl rfl rfl rfl) (fun _ _ _ _ h => h)) (pa_cons (pv 10) pa_nil)) (pa_cons (pv 7) (pa_cons (pv 5) pa_nil))))))) (pe_tup (pa_cons pe_str (pa_cons (pv 5) pa_nil))) (nomark _)) (pss_one (ps_ret pe_bl)) pss_nil)
        (pss_cons (ps_if (PW.pt (pw_and (pt_cmpR op_eq (pv 2) pe_int (nomark _)) (pw_and1 (pt_not (pt_val (pe_smeth (E := fun _ _ _ => False) (pe_glob (v := .ref (He.ga K "Days")) rfl T.Days rfl) rdS smS GS kpS bS (hr.mono (by decide)) passF (pa_cons (pe_make (E := fun _ _ _ => False) D.mkD GD (hr.mono (by decide)) rfl T.Days bD .nil passF (pa_cons (pv 9) pa_nil)) (pa_cons (pe_make (E := fun _ _ _ => False) D.mkD GD (hr.mono (by decide)) rfl T.Days bD .nil passF (pa_cons (pv 9) pa_nil)) (pa_cons (pv 7) (pa_cons (pe_op op_add (pv 7) pe_int) pa_nil)))))))))) (pss_one (ps_ret pe_bl)) pss_nil)
        (pss_one (ps_if (pt_not (pt_val (pe_smeth (E := fun _ _ _ => False) (pe_glob (v := .ref (He.ga K "Days")) rfl T.Days rfl) rdS smS GS kpS bS (hr.mono (by decide)) passF (pa_cons (pe_make (E := fun _ _ _ => False) D.mkD GD (hr.mono (by decide)) rfl T.Days bD .nil passF (pa_cons (pv 9) pa_nil)) (pa_cons (pe_make (E := fun _ _ _ => False) D.mkD GD (hr.mono (by decide)) rfl T.Days bD .nil passF (pa_cons (pv 10) pa_nil)) (pa_cons (pv 7) (pa_cons (pe_op op_sub (pv 7) (pe_op op_pow pe_int pe_int)) pa_nil))))))) (pss_one (ps_ret pe_bl)) pss_nil))))))))))))))))))))
        (pss_one (ps_ret pe_bl)))), ?_⟩
    refine ⟨_, rfl, sa, ns, rfl, hs, hz, fun H1 d l s1 nd nl p1 => ?_⟩
    have tb1 := Tabs.ext tabs s1
    refine ⟨6, rfl, by decide, by decide, for_range (lo := 0) (n := 6)
      (fun i σ H' => ∃ (x2 x3 x4 x5 x6 x7 x8 x9 x10 x11 x12 : Option V) (a' : Int), σ = [some (.ref sa), some (.ref d), x2, x3, x4, x5, x6, x7, x8, x9, x10, x11, x12] ∧ Pen H' d l a' ∧ 0 ≤ a' ∧ a' ≤ 200 * i ∧ Tabs (LT K) H')
      ⟨none, none, none, none, none, none, none, none, none, none, none, 0, rfl, p1, by omega, by omega, tb1⟩ ?_ ?_⟩
    · rintro i σ Ha hi ⟨x2, x3, x4, x5, x6, x7, x8, x9, x10, x11, x12, a0, rfl, p0, ga, ga', tba⟩
      refine ⟨_, rfl, _, rfl, d, l, a0, 6, rfl, p0, by omega, by decide, by decide, fun m a1 Hb m0 m6 g1 g2 pb bb => ?_⟩
      refine ⟨d, l, a1, m, rfl, pb, by omega, m0, by omega, fun t0 xs ps hlp hdp a2 Hc g3 g4 pc bc tq al => ?_⟩
      have hxl := al.len
      have tbc := tabs_but p0 (bb.trans bc) tba
      refine ⟨_, rfl, _, rfl, _, _, rfl, SeqH.len (K := K) (.inl tq), _, _, rfl, rfl, d, l, a2, (xs.length : Int) + 1, rfl, pc, by omega, by omega, by omega, fun sp a3 Hd sp0 spn g5 g6 pd bd => ?_⟩
      have tqd := keepL pc bd tq
      have ald := al.but pc bd
      have tbd := tabs_but pc bd tbc
      -- three parts
      refine ⟨_, rfl, _, rfl, sp, rfl, t0, xs, rfl, SqL.of tqd, fun s1' hs1 => ?_⟩
      have sA := same_upd (o := HO.lst (cutV xs none (some sp))) hs1
      have qA : (upd Hd s1' (HO.lst (cutV xs none (some sp)))) s1' = some (.lst (cutV xs none (some sp))) := upd_same
      have tqA := sA _ _ tqd
      have alA := ald.same sA
      have pA := pd.same sA
      have tbA := tbd.ext sA
      generalize upd Hd s1' (HO.lst (cutV xs none (some sp))) = Hz0 at sA qA tqA alA pA tbA ⊢
      refine ⟨_, rfl, d, l, a3, rfl, pA, by omega, fun np a4 Hf g7 g8 pf bf npv => ?_⟩
      refine ⟨(by show 1 ≤ sizeLine; decide), fun s2 hs2 => ?_⟩
      have qAf := keepL pA bf qA
      have tqf := keepL pA bf tqA
      have alf := alA.but pA bf
      have tbf := tabs_but pA bf tbA
      have sB := same_upd (o := HO.lst [np]) hs2
      have qB : (upd Hf s2 (HO.lst [np])) s2 = some (.lst [np]) := upd_same
      have qAg := sB _ _ qAf
      have tqg := sB _ _ tqf
      have alg := alf.same sB
      have tbg := tbf.ext sB
      have pg := pf.same sB
      have npg := npv.same sB
      generalize upd Hf s2 (HO.lst [np]) = Hg at sB qB qAg tqg alg tbg pg npg ⊢
      have lcut1 : (cutV xs none (some sp)).length ≤ 1000 := by
        rw [show sp = ((sp.toNat : Nat) : Int) from by omega, cutV_to, List.length_take]
        omega
      have lcut2 : (cutV xs (some sp) none).length ≤ 1000 := by
        rw [show sp = ((sp.toNat : Nat) : Int) from by omega, cutV_from, List.length_drop]
        omega
      refine ⟨s1', s2, _, _, rfl, rfl, qAg, qB, (by have := lcut1; have := sizeLine_eq; rw [List.length_singleton]; omega), fun s3 hs3 => ?_⟩
      have sC := same_upd (o := HO.lst (cutV xs none (some sp) ++ [np])) hs3
      have qC : (upd Hg s3 (HO.lst (cutV xs none (some sp) ++ [np]))) s3 = some (.lst (cutV xs none (some sp) ++ [np])) := upd_same
      have tqh := sC _ _ tqg
      have alh := alg.same sC
      have tbh := tbg.ext sC
      have ph := pg.same sC
      have nph := npg.same sC
      generalize upd Hg s3 (HO.lst (cutV xs none (some sp) ++ [np])) = Hh at sC qC tqh alh tbh ph nph ⊢
      refine ⟨_, rfl, _, rfl, sp, rfl, t0, xs, rfl, SqL.of tqh, fun s4 hs4 => ?_⟩
      have sD := same_upd (o := HO.lst (cutV xs (some sp) none)) hs4
      have qD : (upd Hh s4 (HO.lst (cutV xs (some sp) none))) s4 = some (.lst (cutV xs (some sp) none)) := upd_same
      have qCi := sD _ _ qC
      have ali := alh.same sD
      have tbi := tbh.ext sD
      have pi := ph.same sD
      have npi := nph.same sD
      generalize upd Hh s4 (HO.lst (cutV xs (some sp) none)) = Hi at sD qD qCi ali tbi pi npi ⊢
      refine ⟨s3, s4, _, _, rfl, rfl, qCi, qD, (by have := lcut1; have := lcut2; have := sizeLine_eq; rw [List.length_append, List.length_singleton]; omega), fun s5 hs5 => ?_⟩
      have sE := same_upd (o := HO.lst ((cutV xs none (some sp) ++ [np]) ++ cutV xs (some sp) none)) hs5
      have qE : (upd Hi s5 (HO.lst ((cutV xs none (some sp) ++ [np]) ++ cutV xs (some sp) none))) s5 = some (.lst ((cutV xs none (some sp) ++ [np]) ++ cutV xs (some sp) none)) := upd_same
      have alj := ali.same sE
      have tbj := tbi.ext sE
      have pj := pi.same sE
      have npj := npi.same sE
      generalize upd Hi s5 (HO.lst ((cutV xs none (some sp) ++ [np]) ++ cutV xs (some sp) none)) = Hj at sE qE alj tbj pj npj ⊢
      obtain ⟨n, rfl⟩ : ∃ n : Nat, sp = (n : Int) := ⟨sp.toNat, by omega⟩
      rw [cutV_to, cutV_from] at qE
      clear qCi qD sE sD qC sC qB sB sA qA tqA tqh tqg alg alh ali tbg tbh tbi pg ph pi npg nph npi hs1 hs2 hs3 hs4 hs5
      dsimp only [tNext, gName]
      refine seq_by (fun σ' H' => ∃ (x4 x5 x6 x7 x8 x9 x10 x12 : Option V) (s6 : Addr) (ex : List V) (a5 : Int), σ' = [some (.ref sa), some (.ref d), some (.int (0 + (i : Int))), some (.int (n : Int)), x4, x5, x6, x7, x8, x9, x10, some (.ref s6), x12] ∧ H' s6 = some (.lst (((xs.take n ++ [np]) ++ xs.drop n) ++ ex)) ∧ ex.length ≤ 1 ∧ PcsA H' xs ps ∧ PieV H' np false ∧ Pen H' d l a5 ∧ a4 ≤ a5 ∧ a5 ≤ a4 + 2 ∧ Tabs (LT K) H') (fun Nx hN => ?_) ?_
      · refine ⟨_, rfl, d, l, a4, 2, rfl, pj, by omega, by decide, by decide, fun r a5 Hk r0 r2 h1 h2 pk bk => ?_⟩
        have qEk := keepL pj bk qE
        have alk := alj.but pj bk
        have tbk := tabs_but pj bk tbj
        have npk := npj.but pj bk
        refine ⟨rfl, _, rfl, ifQ (fun e => ?_) (fun e => ?_)⟩
        · refine ⟨_, rfl, _, rfl, d, l, a5, rfl, pk, by omega, fun np2 a6 Hl h3 h4 pl bl npv2 => ?_⟩
          refine ⟨(by show 1 ≤ sizeLine; decide), fun s6 hs6 => ?_⟩
          have qEl := keepL pk bl qEk
          have sF := same_upd (o := HO.lst [np2]) hs6
          have qF : (upd Hl s6 (HO.lst [np2])) s6 = some (.lst [np2]) := upd_same
          have qEm := sF _ _ qEl
          have alm := (alk.but pk bl).same sF
          have tbm := (tabs_but pk bl tbk).ext sF
          have npm := (npk.but pk bl).same sF
          have pm := pl.same sF
          generalize upd Hl s6 (HO.lst [np2]) = Hm at sF qF qEm alm tbm npm pm ⊢
          refine ⟨s5, s6, _, _, rfl, rfl, qEm, qF, ?_, fun s7 hs7 => ?_⟩
          · have := sizeLine_eq
            simp only [List.length_append, List.length_take, List.length_drop, List.length_singleton]
            omega
          have sG := same_upd (o := HO.lst (((xs.take n ++ [np]) ++ xs.drop n) ++ [np2])) hs7
          exact hN _ _ ⟨_, _, _, _, _, _, _, _, s7, [np2], a6, rfl, upd_same, Nat.le_refl _, alm.same sG, npm.same sG, pm.same sG, by omega, by omega, tbm.ext sG⟩
        · exact hN _ _ ⟨_, _, _, _, _, _, _, _, s5, [], a5, rfl, by rw [List.append_nil]; exact qEk, Nat.zero_le _, alk, npk, pk, by omega, by omega, tbk⟩
      rintro _ Hk ⟨x4, x5, x6, x7, x8, x9, x10, x12, s6, ex, a5, rfl, qk, lex, alk, npk, pk, h1, h2, tbk⟩
      refine ⟨tbk, fun Hl el tbl E hP hN => ?_⟩
      refine ⟨_, rfl, fun x dx nx ndx ne => ?_⟩
      have ll : (((xs.take n ++ [np]) ++ xs.drop n) ++ ex).length ≤ 1000 := by
        simp only [List.length_append, List.length_take, List.length_drop, List.length_singleton]
        omega
      have mv : ∀ c o, Hl c = some o → (upd (upd Hl dx (HO.own x)) x (HO.ins (He.ga K "Days") dx [])) c = some o := fun c o z => by
        rw [upd_ne (ne_of_none z nx), upd_ne (ne_of_none z ndx)]
        exact z
      have qkl : Hl s6 = some (.lst (((xs.take n ++ [np]) ++ xs.drop n) ++ ex)) := el _ _ qk (fun _ => nofun)
      have alL := alk.ext el
      have npL := npk.ext el
      have pL := Pen.extN el pk
      have sM : Same Hl (upd (upd Hl dx (HO.own x)) x (HO.ins (He.ga K "Days") dx [])) := fun c o z => mv c o z
      have nlen : (xs.take n).length = n := by rw [List.length_take]; omega
      refine ⟨x, dx, s6, _, rfl, upd_same, .inl (mv _ _ qkl), ll, .inr ⟨n, np, ?_, npL.same sM, fun j v' hj hv' => ?_, hP _ (.int (n : Int)) fun p H' s' hp0 hq => ?_⟩⟩
      · rw [List.append_assoc, List.append_assoc, List.getElem?_append_right (by omega), nlen, Nat.sub_self]
        rfl
      · rw [List.append_assoc, List.append_assoc, List.getElem?_append_left (by omega), List.getElem?_take, if_pos hj] at hv'
        obtain ⟨p, hp, t, rfl, tq'⟩ := alL.at hv'
        exact PieA.pieV ⟨t, rfl, .inr (mv _ _ tq')⟩ (hdp p (List.mem_of_getElem? hp)).good
      have sN := sM.trans s'
      have tbn := tbl.ext sN
      have pn := pL.same sN
      refine ⟨_, rfl, (by show 2 ≤ sizeLine; decide), fun t2 ht2 => ?_⟩
      have sO := same_upd (o := HO.tup [.str "piece", .int (n : Int)]) ht2
      obtain ⟨D0, d1, d2, sh, eq⟩ := dat_eq (K := K) (sO _ _ hq) (upd_same (o := HO.tup [.str "piece", .int (n : Int)])) (by decide +kernel) (DatV.int (n : Int))
      have po := pn.same sO
      have tbo := tbn.ext sO
      generalize upd H' t2 (HO.tup [.str "piece", .int (n : Int)]) = H6 at sO d1 d2 po tbo ⊢
      refine ⟨D0, D0, d1, d2, sh, sh, _, rfl, ifN (by rw [eq]; rfl) ?_⟩
      clear d1 d2 sh eq sO sN sM mv qkl alL npL pL nlen ll hp0 hq s' ht2
      -- two sets
      refine ⟨_, rfl, _, rfl, d, l, a5, 3, rfl, po, by omega, by decide, by decide, fun r1 a6 H7 r10 r11 g11 g12 p7 b7 => ?_⟩
      refine ⟨_, _, rfl, rfl, d, l, a6, 1 + r1, rfl, p7, by omega, by omega, by omega, fun o1 xo po1 hlo hdo a7 H8 g13 g14 p8 b8 qo1 alo => ?_⟩
      refine ⟨_, rfl, _, rfl, d, l, a7, 3, rfl, p8, by omega, by decide, by decide, fun r2 a8 H9 r20 r21 g15 g16 p9 b9 => ?_⟩
      refine ⟨_, _, rfl, rfl, d, l, a8, 1 + r2, rfl, p9, by omega, by omega, by omega, fun o2 xq pq1 hlq hdq a9 H10 g17 g18 p10 b10 qo2 alq => ?_⟩
      have qo1' := keepL p9 b10 (keepL p8 b9 qo1)
      have alo' := (alo.but p8 b9).but p9 b10
      have tb10 := tabs_but po (((b7.trans b8).trans b9).trans b10) tbo
      refine ⟨(by show 2 ≤ sizeLine; decide), fun tt htt => ?_⟩
      have sP := same_upd (o := HO.tup [.ref o1, .ref o2]) htt
      have qtt : (upd H10 tt (HO.tup [.ref o1, .ref o2])) tt = some (.tup [.ref o1, .ref o2]) := upd_same
      have qo1p := sP _ _ qo1'
      have qo2p := sP _ _ qo2
      have alop := alo'.same sP
      have alqp := alq.same sP
      have tbp := tb10.ext sP
      have pp := p10.same sP
      generalize upd H10 tt (HO.tup [.ref o1, .ref o2]) = H11 at sP qtt qo1p qo2p alop alqp tbp pp ⊢
      refine ⟨tt, _, rfl, SqT.of qtt, rfl, _, _, rfl, _, _, rfl, rfl, ?_⟩
      clear sP qtt qo1' alo' tb10 htt p10 b10 p9 b9 p8 b8 p7 b7 po tbo
      dsimp only [tNext, gName]
      refine seq_by (fun σ' H' => ∃ (x4 x5 x6 x7 x8 x12 : Option V) (o3 : Addr) (ys : List V) (qs : List Pc) (a10 : Int), σ' = [some (.ref sa), some (.ref d), some (.int (0 + (i : Int))), some (.int (n : Int)), x4, x5, x6, x7, x8, some (.ref o1), some (.ref o3), some (.ref s6), x12] ∧ H' o1 = some (.lst xo) ∧ PcsA H' xo po1 ∧ H' o3 = some (.lst ys) ∧ PcsA H' ys qs ∧ qs.length ≤ 4 ∧ (∀ p ∈ qs, PcD p) ∧ Pen H' d l a10 ∧ a9 ≤ a10 ∧ a10 ≤ a9 + 1 ∧ Tabs (LT K) H') (fun Nx hN => ?_) ?_
      · refine ⟨_, rfl, d, l, a9, 2, rfl, pp, by omega, by decide, by decide, fun r a10 Hk r0 r2 h1 h2 pk bk => ?_⟩
        have qo1k := keepL pp bk qo1p
        have qo2k := keepL pp bk qo2p
        have alok := alop.but pp bk
        have alqk := alqp.but pp bk
        have tbk := tabs_but pp bk tbp
        refine ⟨rfl, _, rfl, ifQ (fun e => ?_) (fun e => ?_)⟩
        · obtain ⟨p0', hp0'⟩ : ∃ p, po1[0]? = some p := ⟨_, List.getElem?_eq_getElem (by omega)⟩
          obtain ⟨v0', hv0', t', rfl, tq'⟩ := all2_of alok hp0'
          refine ⟨_, rfl, _, rfl, o1, _, _, _, rfl, rfl, SqL.of qo1k, atI_nat (j := 0) hv0', ?_⟩
          refine ⟨(by show 1 ≤ sizeLine; decide), fun u6 hu6 => ?_⟩
          have sF := same_upd (o := HO.lst [.ref t']) hu6
          have qF : (upd Hk u6 (HO.lst [.ref t'])) u6 = some (.lst [.ref t']) := upd_same
          have qG := sF _ _ qo1k
          have alG := alok.same sF
          have tbG := tbk.ext sF
          have pG := pk.same sF
          have tG := sF _ _ tq'
          generalize upd Hk u6 (HO.lst [.ref t']) = Hm at sF qF qG alG tbG pG tG ⊢
          have xol := alG.len
          refine ⟨o1, u6, _, _, rfl, rfl, qG, qF, (by have := sizeLine_eq; rw [List.length_singleton]; omega), fun u7 hu7 => ?_⟩
          have sG := same_upd (o := HO.lst (xo ++ [.ref t'])) hu7
          exact hN _ _ ⟨_, _, _, _, _, _, u7, xo ++ [.ref t'], po1 ++ [p0'], a10, rfl, sG _ _ qG, alG.same sG, upd_same, (alG.same sG).snoc ⟨t', rfl, sG _ _ tG⟩, by rw [List.length_append, List.length_singleton]; omega, fun p hp => (List.mem_append.mp hp).elim (hdo p) (fun h => by rw [List.mem_singleton.mp h]; exact hdo _ (List.mem_of_getElem? hp0')), pG.same sG, h1, h2, tbG.ext sG⟩
        · exact hN _ _ ⟨_, _, _, _, _, _, o2, xq, pq1, a10, rfl, qo1k, alok, qo2k, alqk, by omega, hdq, pk, h1, h2, tbk⟩
      rintro _ Hn ⟨x4, x5, x6, x7, x8, x12, o3, ys, qs, a10, rfl, qo, alo3, qq, alq3, lqs, hdq3, pn', h3, h4, tbn'⟩
      clear qo1p qo2p alop alqp tbp pp
      refine ⟨_, rfl, d, l, a10, 121, rfl, pn', by omega, by decide, by decide, fun r3 a11 Hp' r30 r31 g19 g20 pq' bq' => ?_⟩
      refine ⟨_, _, rfl, rfl, ?_⟩
      refine ⟨_, rfl, _, rfl, d, l, a11, 80, rfl, pq', by omega, by decide, by decide, fun r4 a12 Hq' r40 r41 g21 g22 pr' br' => ?_⟩
      refine ⟨_, _, rfl, rfl, _, _, rfl, rfl, ?_⟩
      have qo' := keepL pq' br' (keepL pn' bq' qo)
      have qq' := keepL pq' br' (keepL pn' bq' qq)
      have alo4 := (alo3.but pn' bq').but pq' br'
      have alq4 := (alq3.but pn' bq').but pq' br'
      have tbr := tabs_but pn' (bq'.trans br') tbn'
      clear qo alo3 qq alq3 tbn'
      generalize hlow : r3 - 60 = low
      generalize hhigh : low + r4 - 5 = high
      have hlo : ∀ p ∈ po1, p.good := fun p hp => (hdo p hp).good
      have hlq' : ∀ p ∈ qs, p.good := fun p hp => (hdq3 p hp).good
      dsimp only [tNext, gName]
      refine norm_st [some (.ref sa), some (.ref d), some (.int (0 + (i : Int))), some (.int (n : Int)), x4, x5, some (.int high), some (.int low), x8, some (.ref o1), some (.ref o3), some (.ref s6), x12] (by subst hhigh; subst hlow; rfl) ?_
      refine ⟨_, rfl, _, rfl, _, _, rfl, rfl, low, high + 1, rfl, by omega, fun lB hlB => lc_it (walk_range (lo := low) (n := (high + 1 - low).toNat)) (fun i H' => Same Hq' H' ∧ H' lB = some (.lst (((((daysR low high).map fun d => !decide (V.bl (inPs po1 d) = V.bl (inPs qs d)))).take i).map V.bl))) ⟨same_upd hlB, upd_same⟩ (fun _ _ _ _ => trivial) ?_ ?_⟩
      · rintro j v Hy H3 hj ⟨s3, q3⟩ ⟨rfl, rfl⟩
        have hat : (daysR low high)[j]? = some (low + (j : Int)) := by
          unfold daysR
          rw [List.getElem?_map, List.getElem?_range (by omega)]
          rfl
        refine ⟨rfl, iteT (B := Same Hq' H3 ∧ H3 lB = some (.lst (((((daysR low high).map fun d => !decide (V.bl (inPs po1 d) = V.bl (inPs qs d)))).take (j + 1)).map V.bl))) ?_⟩
        refine ⟨_, rfl, _, rfl, o1, xo, po1, low + (j : Int), rfl, s3 _ _ qo', alo4.same s3, hlo, by omega, fun H4 s4 => ?_⟩
        refine ⟨_, rfl, _, rfl, o3, ys, qs, low + (j : Int), rfl, s4 _ _ (s3 _ _ qq'), (alq4.same s3).same s4, hlq', by omega, fun H5 s5 => ?_⟩
        have q5 := s5 _ _ (s4 _ _ q3)
        have dl : (daysR low high).length = (high + 1 - low).toNat := by unfold daysR; rw [List.length_map, List.length_range]
        refine ⟨rfl, _, q5, by have := sizeLine_eq; rw [List.length_map, List.length_take, List.length_map, dl]; omega, fun c o zz => ?_, ?_⟩
        · rw [upd_ne (ne_of_none zz hlB)]
          exact s5 _ _ (s4 _ _ (s3 _ _ zz))
        · rw [upd_same, List.take_add_one, List.getElem?_map, hat, List.map_append]
          rfl
      rintro Hr ⟨sR, qR⟩
      have dl : (daysR low high).length = (high + 1 - low).toNat := by unfold daysR; rw [List.length_map, List.length_range]
      rw [List.take_of_length_le (by rw [List.length_map, dl]; exact Nat.le_refl _)] at qR
      refine ⟨lB, _, rfl, SqL.of qR, _, rfl, ?_⟩
      rw [due_same]
      have qo2' := sR _ _ qo'
      have qq2' := sR _ _ qq'
      have alo5 := alo4.same sR
      have alq5 := alq4.same sR
      have tb5 := tbr.ext sR
      have p5 := pr'.same sR
      clear qR sR qo' qq' alo4 alq4 tbr hlB
      -- the sets compared
      refine ⟨tb5, fun Hl el tbl E hP hN => ?_⟩
      have qo6 := el _ _ qo2' (fun _ => nofun)
      have qq6 := el _ _ qq2' (fun _ => nofun)
      have alo6 := alo5.ext el
      have alq6 := alq5.ext el
      have p6 := Pen.extN el p5
      refine ⟨rfl, _, rfl, fun x dx nx ndx ne => mkDays qo6 alo6 hdo (by omega) nx ndx fun Hm sm dA => ⟨rfl, _, rfl, fun y dy ny ndy ney => mkDays (sm _ _ qq6) (alq6.same sm) hdq3 (by omega) ny ndy fun Ho so dB => ⟨rfl, _, rfl, _, rfl, ?_⟩⟩⟩
      refine ⟨x, y, po1, qs, .int low, .int high, rfl, dA.same so, dB, .inr (.inr (.inr ⟨low, high, rfl, rfl, by omega, fun H' s' => ?_⟩))⟩
      refine ⟨_, rfl, rfl, _, rfl, ifN (by rw [decide_eq_true rfl]; rfl) ?_⟩
      have sS := (sm.trans so).trans s'
      have qo7 := sS _ _ qo6
      have qq7 := sS _ _ qq6
      have alo7 := alo6.same sS
      have alq7 := alq6.same sS
      have p7 := p6.same sS
      have tb7 := tbl.ext sS
      clear sS s' so sm dA dB nx ndx ny ndy qo6 qq6 alo6 alq6 p6 tbl el qo2' qq2' alo5 alq5 p5 tb5 hP hN
      -- what is no number
      refine ⟨_, rfl, (by show 1 ≤ sizeLine; decide), fun u1 hu1 => ?_⟩
      have sT := same_upd (o := HO.lst [.int 1]) hu1
      have d1 : DatV (upd H' u1 (HO.lst [.int 1])) (.ref u1) := .lst upd_same
      generalize upd H' u1 (HO.lst [.int 1]) = Hs at sT d1 ⊢
      refine ⟨(by show 1 ≤ sizeLine; decide), fun u2 hu2 => ?_⟩
      have sU := same_upd (o := HO.tup [.int 2]) hu2
      have d2 : DatV (upd Hs u2 (HO.tup [.int 2])) (.ref u2) := .tup upd_same
      have d1' := d1.same sU
      have sTU := sT.trans sU
      generalize upd Hs u2 (HO.tup [.int 2]) = Ht at sU sTU d1' d2 ⊢
      refine ⟨(by show 5 ≤ sizeLine; decide), fun u3 hu3 => ?_⟩
      have sV := same_upd (o := HO.lst [.non, .bl true, .str "3", .ref u1, .ref u2]) hu3
      have qv : (upd Ht u3 (HO.lst [.non, .bl true, .str "3", .ref u1, .ref u2])) u3 = some (.lst [.non, .bl true, .str "3", .ref u1, .ref u2]) := upd_same
      have sW := sTU.trans sV
      have dall : ∀ v ∈ ([.non, .bl true, .str "3", .ref u1, .ref u2] : List V), DatV (upd Ht u3 (HO.lst [.non, .bl true, .str "3", .ref u1, .ref u2])) v ∧ ∀ i : Int, v ≠ .int i := fun v hv => by
        rcases List.mem_cons.mp hv with rfl | hv
        · exact ⟨.non, fun _ => nofun⟩
        · rcases List.mem_cons.mp hv with rfl | hv
          · exact ⟨.bl true, fun _ => nofun⟩
          · rcases List.mem_cons.mp hv with rfl | hv
            · exact ⟨.str _ (by decide +kernel), fun _ => nofun⟩
            · rcases List.mem_cons.mp hv with rfl | hv
              · exact ⟨d1'.same sV, fun _ => nofun⟩
              · rw [List.mem_singleton.mp hv]
                exact ⟨d2.same sV, fun _ => nofun⟩
      have qo8 := sW _ _ qo7
      have qq8 := sW _ _ qq7
      have alo8 := alo7.same sW
      have alq8 := alq7.same sW
      have p8 := p7.same sW
      have tb8 := tb7.ext sW
      generalize upd Ht u3 (HO.lst [.non, .bl true, .str "3", .ref u1, .ref u2]) = Hu at sV sW qv dall qo8 qq8 alo8 alq8 p8 tb8 ⊢
      refine ⟨d, l, a12, .ref u3, rfl, p8, by omega, .inl ⟨u3, _, rfl, p8.dne qv, qv, (fun z => nomatch z), (by show 5 ≤ 1000; decide), fun od a13 Hv hod g23 g24 p9 b9 => ?_⟩⟩
      have dod := (dall od hod).1.but p8 b9
      have nod := (dall od hod).2
      have qo9 := keepL p8 b9 qo8
      have qq9 := keepL p8 b9 qq8
      have alo9 := alo8.but p8 b9
      have alq9 := alq8.but p8 b9
      have tb9 := tabs_but p8 b9 tb8
      clear dall qv sW sV sTU sU sT d1 d1' d2 hu1 hu2 hu3 qo8 qq8 alo8 alq8 p8 b9 tb8 qo7 qq7 alo7 alq7 p7 tb7 hod
      refine ⟨tb9, fun Hl el tbl E hP hN => ?_⟩
      have qoL := el _ _ qo9 (fun _ => nofun)
      have qqL := el _ _ qq9 (fun _ => nofun)
      have aloL := alo9.ext el
      have alqL := alq9.ext el
      have pL := Pen.extN el p9
      have dodL := dod.ext el
      refine ⟨rfl, _, rfl, fun x dx nx ndx ne => mkDays qoL aloL hdo (by omega) nx ndx fun Hm sm dA => ⟨rfl, _, rfl, fun y dy ny ndy ney => mkDays (sm _ _ qqL) (alqL.same sm) hdq3 (by omega) ny ndy fun Ho so dB => ⟨rfl, _, rfl, ?_⟩⟩⟩
      refine ⟨x, y, po1, qs, od, .non, rfl, dA.same so, dB, .inl ⟨((dodL.same sm).same so).intB nod, hN _ od fun p H' s' hp0 hq => ?_⟩⟩
      have sS := (sm.trans so).trans s'
      have p10 := pL.same sS
      have tb10 := tbl.ext sS
      have qo10 := sS _ _ qoL
      have qq10 := sS _ _ qqL
      have alo10 := aloL.same sS
      have alq10 := alqL.same sS
      have dod := dodL.same sS
      refine ⟨_, rfl, (by show 2 ≤ sizeLine; decide), fun t2 ht2 => ?_⟩
      have sO := same_upd (o := HO.tup [.str "number", od]) ht2
      obtain ⟨D0, d1, d2, sh, eq⟩ := dat_eq (K := K) (sO _ _ hq) (upd_same (o := HO.tup [.str "number", od])) (by decide +kernel) (dod.same sO)
      have p10 := p10.same sO
      have tb10 := tb10.ext sO
      have qo10 := sO _ _ qo10
      have qq10 := sO _ _ qq10
      have alo10 := alo10.same sO
      have alq10 := alq10.same sO
      have dod := dod.same sO
      generalize upd H' t2 (HO.tup [.str "number", od]) = Hw10 at sO d1 d2 p10 tb10 qo10 qq10 alo10 alq10 dod ⊢
      refine ⟨D0, D0, d1, d2, sh, sh, _, rfl, ifN (by rw [eq]; rfl) ?_⟩
      clear d1 d2 sh eq sO sS s' so sm dA dB nx ndx ny ndy qoL qqL aloL alqL pL dodL tbl el hP hN hp0 hq ht2 qo9 qq9 alo9 alq9 p9 tb9
      refine ⟨tb10, fun Hl el tbl E hP hN => ?_⟩
      have qoL := el _ _ qo10 (fun _ => nofun)
      have qqL := el _ _ qq10 (fun _ => nofun)
      have aloL := alo10.ext el
      have alqL := alq10.ext el
      have pL := Pen.extN el p10
      have dodL := dod.ext el
      refine ⟨rfl, _, rfl, fun x dx nx ndx ne => mkDays qoL aloL hdo (by omega) nx ndx fun Hm sm dA => ⟨rfl, _, rfl, fun y dy ny ndy ney => mkDays (sm _ _ qqL) (alqL.same sm) hdq3 (by omega) ny ndy fun Ho so dB => ⟨rfl, _, rfl, _, rfl, ?_⟩⟩⟩
      refine ⟨x, y, po1, qs, .int low, od, rfl, dA.same so, dB, .inr (.inl ⟨low, rfl, ((dodL.same sm).same so).intB nod, hN _ od fun p H' s' hp0 hq => ?_⟩)⟩
      have sS := (sm.trans so).trans s'
      have p11 := pL.same sS
      have tb11 := tbl.ext sS
      have qo11 := sS _ _ qoL
      have qq11 := sS _ _ qqL
      have alo11 := aloL.same sS
      have alq11 := alqL.same sS
      have dod := dodL.same sS
      refine ⟨_, rfl, (by show 2 ≤ sizeLine; decide), fun t2 ht2 => ?_⟩
      have sO := same_upd (o := HO.tup [.str "number", od]) ht2
      obtain ⟨D0, d1, d2, sh, eq⟩ := dat_eq (K := K) (sO _ _ hq) (upd_same (o := HO.tup [.str "number", od])) (by decide +kernel) (dod.same sO)
      have p11 := p11.same sO
      have tb11 := tb11.ext sO
      have qo11 := sO _ _ qo11
      have qq11 := sO _ _ qq11
      have alo11 := alo11.same sO
      have alq11 := alq11.same sO
      have dod := dod.same sO
      generalize upd H' t2 (HO.tup [.str "number", od]) = Hw11 at sO d1 d2 p11 tb11 qo11 qq11 alo11 alq11 dod ⊢
      refine ⟨D0, D0, d1, d2, sh, sh, _, rfl, ifN (by rw [eq]; rfl) ?_⟩
      clear d1 d2 sh eq sO sS s' so sm dA dB nx ndx ny ndy qoL qqL aloL alqL pL dodL tbl el hP hN hp0 hq ht2 qo10 qq10 alo10 alq10 p10 tb10
      refine ⟨_, rfl, _, _, rfl, rfl, ?_⟩
      refine ⟨_, rfl, 10, 6, rfl, rfl, ⟨by decide, by decide, by decide⟩, d, l, a13, 1000000, rfl, p11, by omega, by decide, by decide, fun r5 a14 Hx r50 r51 g25 g26 p12 b12 => ?_⟩
      refine ⟨_, _, rfl, rfl, ?_⟩
      obtain ⟨far, hfar⟩ : ∃ far, far = low + 10001 + r5 := ⟨_, rfl⟩
      dsimp only [tNext, gName]
      refine norm_st [some (.ref sa), some (.ref d), some (.int (0 + (i : Int))), some (.int (n : Int)), some (.bl (sameD po1 qs low high)), some (.int far), some (.int high), some (.int low), some od, some (.ref o1), some (.ref o3), some (.ref s6), x12] (by rw [hfar]; rfl) ?_
      have qo12 := keepL p11 b12 qo11
      have qq12 := keepL p11 b12 qq11
      have alo12 := alo11.but p11 b12
      have alq12 := alq11.but p11 b12
      have tb12 := tabs_but p11 b12 tb11
      have dod := dod.but p11 b12
      clear qo11 qq11 alo11 alq11 tb11 p11 b12
      refine ⟨tb12, fun Hl el tbl E hP hN => ?_⟩
      have qoL := el _ _ qo12 (fun _ => nofun)
      have qqL := el _ _ qq12 (fun _ => nofun)
      have aloL := alo12.ext el
      have alqL := alq12.ext el
      have pL := Pen.extN el p12
      have dodL := dod.ext el
      refine ⟨rfl, _, rfl, fun x dx nx ndx ne => mkDays qoL aloL hdo (by omega) nx ndx fun Hm sm dA => ⟨rfl, _, rfl, fun y dy ny ndy ney => mkDays (sm _ _ qqL) (alqL.same sm) hdq3 (by omega) ny ndy fun Ho so dB => ⟨rfl, _, rfl, _, rfl, ?_⟩⟩⟩
      refine ⟨x, y, po1, qs, .int low, .int far, rfl, dA.same so, dB, .inr (.inr (.inl ⟨low, far, rfl, rfl, by omega, hN _ (.int far) fun p H' s' hp0 hq => ?_⟩))⟩
      have sS := (sm.trans so).trans s'
      have p13 := pL.same sS
      have tb13 := tbl.ext sS
      have qo13 := sS _ _ qoL
      have qq13 := sS _ _ qqL
      have alo13 := aloL.same sS
      have alq13 := alqL.same sS
      have dod := dodL.same sS
      refine ⟨_, rfl, (by show 2 ≤ sizeLine; decide), fun t2 ht2 => ?_⟩
      have sO := same_upd (o := HO.tup [.str "number", .int far]) ht2
      obtain ⟨D0, d1, d2, sh, eq⟩ := dat_eq (K := K) (sO _ _ hq) (upd_same (o := HO.tup [.str "number", .int far])) (by decide +kernel) ((DatV.int (H := H') far).same sO)
      have p13 := p13.same sO
      have tb13 := tb13.ext sO
      have qo13 := sO _ _ qo13
      have qq13 := sO _ _ qq13
      have alo13 := alo13.same sO
      have alq13 := alq13.same sO
      have dod := dod.same sO
      generalize upd H' t2 (HO.tup [.str "number", .int far]) = Hw13 at sO d1 d2 p13 tb13 qo13 qq13 alo13 alq13 dod ⊢
      refine ⟨D0, D0, d1, d2, sh, sh, _, rfl, ifN (by rw [eq]; rfl) ?_⟩
      clear d1 d2 sh eq sO sS s' so sm dA dB nx ndx ny ndy qoL qqL aloL alqL pL dodL tbl el hP hN hp0 hq ht2 qo12 qq12 alo12 alq12 p12 tb12
      -- a set and itself, many days
      dsimp only [tNext, gName]
      refine seq_by (fun σ' H' => σ' = [some (.ref sa), some (.ref d), some (.int (0 + (i : Int))), some (.int (n : Int)), some (.bl (sameD po1 qs low high)), some (.int far), some (.int high), some (.int low), some od, some (.ref o1), some (.ref o3), some (.ref s6), x12] ∧ H' o1 = some (.lst xo) ∧ PcsA H' xo po1 ∧ H' o3 = some (.lst ys) ∧ PcsA H' ys qs ∧ Pen H' d l a14 ∧ Tabs (LT K) H') (fun Nx hNx => ?_) ?_
      · refine ⟨_, rfl, rfl, _, rfl, ifQ (fun e => ?_) (fun e => ?_)⟩
        · refine ⟨rfl, _, rfl, fun x dx nx ndx ne => mkDays qo13 alo13 hdo (by omega) nx ndx fun Hm sm dA => ⟨rfl, _, rfl, fun y dy ny ndy ney => mkDays (sm _ _ qo13) (alo13.same sm) hdo (by omega) ny ndy fun Ho so dB => ⟨rfl, _, rfl, _, rfl, _, _, rfl, rfl, ?_⟩⟩⟩
          refine ⟨x, y, po1, po1, .int low, .int (low + 10000), rfl, dA.same so, dB, .inr (.inr (.inr ⟨low, low + 10000, rfl, rfl, by omega, fun H' s' => ?_⟩))⟩
          have sS := (sm.trans so).trans s'
          rw [sameD_refl]
          exact ⟨_, rfl, ifN rfl (hNx _ _ ⟨rfl, sS _ _ qo13, alo13.same sS, sS _ _ qq13, alq13.same sS, p13.same sS, tb13.ext sS⟩)⟩
        · exact ifN rfl (hNx _ _ ⟨rfl, qo13, alo13, qq13, alq13, p13, tb13⟩)
      rintro _ Hz ⟨rfl, qoz, aloz, qqz, alqz, pz, tbz⟩
      refine ⟨rfl, _, rfl, fun x dx nx ndx ne => mkDays qoz aloz hdo (by omega) nx ndx fun Hm sm dA => ⟨rfl, _, rfl, fun y dy ny ndy ney => mkDays (sm _ _ qqz) (alqz.same sm) hdq3 (by omega) ny ndy fun Ho so dB => ⟨rfl, _, rfl, _, rfl, 10, 20, rfl, rfl, ⟨by decide, by decide, by decide⟩, _, _, rfl, rfl, ?_⟩⟩⟩
      refine ⟨x, y, po1, qs, .int low, .int (low - 100000000000000000000), rfl, dA.same so, dB, .inr (.inr (.inr ⟨low, low - 100000000000000000000, rfl, rfl, by omega, fun H' s' => ?_⟩))⟩
      have sS := (sm.trans so).trans s'
      have e20 : sameD po1 qs low (low - 100000000000000000000) = true := sameD_none po1 qs (by omega)
      exact ⟨_, rfl, ifN (by rw [e20]; rfl) ⟨_, _, _, _, _, _, _, _, _, _, _, a14, rfl, pz.same sS, by omega, by push_cast; omega, tbz.ext sS⟩⟩
    · rintro σ Ha ⟨x2, x3, x4, x5, x6, x7, x8, x9, x10, x11, x12, a0, rfl, p0, ga, ga', tba⟩
      exact k _
end
end Wd
end
section
set_option Elab.async false
set_option linter.all false
set_option maxRecDepth 100000
set_option maxHeartbeats 1000000
set_option pp.maxSteps 600
/-! the head's facts: MEMBERS, a static method -/
namespace Wd
open PySem PySem.Spec PyProof.Rows L2 ClX
theorem tq_of {K : PySem.W.Frag} {w : World} {es : Array DictEntry} {n : Nat} (d : KDict K w (He.ga K "MEMBERS") es n) (b : memB K = true) : Tq K w := by
  have b' : es.toList.map memR = memL.map some := by
    unfold memB at b
    rw [d.at_] at b
    exact of_decide_eq_true b
  refine ⟨⟨es, n, d.at_, d.lit, d.low⟩, fun z => ?_⟩
  obtain ⟨h1, h2⟩ := mem_find b' z
  refine ⟨es, n, (es.toList.find? (·.key.isStr z)).map (·.val), d.at_, d.lit, d.low, ?_, ?_⟩
  · unfold PySem.W.nsIn
    rw [d.at_]
    show (match es.toList.find? (·.key.isStr z) with
      | some e => some (some e.val)
      | none => if es.toList.any (·.refKey) then none else some none) = _
    cases h : es.toList.find? (·.key.isStr z) with
    | some e => rfl
    | none =>
      rw [h1]
      rfl
  · have e : (memL.find? (fun k => decide (k.1 = z))).map (fun k => V.int k.2) = (memK z).map V.int := by
      unfold memK memL
      by_cases z1 : z = "one"
      · subst z1
        rfl
      by_cases z2 : z = "up"
      · subst z2
        rfl
      by_cases z3 : z = "down"
      · subst z3
        rfl
      by_cases z4 : z = "every"
      · subst z4
        rfl
      rw [if_neg z1, if_neg z2, if_neg z3, if_neg z4]
      simp [List.find?_cons, decide_eq_false (fun h => z1 (Eq.symm h)), decide_eq_false (fun h => z2 (Eq.symm h)), decide_eq_false (fun h => z3 (Eq.symm h)), decide_eq_false (fun h => z4 (Eq.symm h))]
    rw [← e]
    exact h2
theorem stat_at {K : PySem.W.Frag} {C p : Addr} {m : Str} (f1 : PySem.W.findIn K (.type "type") m = some none) (f2 : PySem.W.findIn K (.ref C) m = some (some (.ref p))) (f3 : PySem.W.typeIn K (.ref p) = some (.type "staticmethod")) (f4 : PySem.W.specialIn K (.ref p) "__get__" = some (some (.builtin "staticmethod.__get__"))) :
    PySem.W.findCls K (.ref C) (.type "type") m = some (.get (.builtin "staticmethod.__get__") (.ref p) .none (.ref C)) := by
  unfold PySem.W.findCls
  rw [f1]
  simp only [Option.bind_some]
  rw [f2]
  simp only [Option.bind_some]
  rw [f3]
  simp only [Option.bind_some]
  rw [f4]
  rfl
end Wd
end
section
set_option Elab.async false
set_option linter.all false
set_option maxRecDepth 100000
set_option maxHeartbeats 4000000
namespace Wd
open PySem PySem.Spec PyProof.Rows L2 Wt TL NumText
theorem dtup_ok {K : PySem.W.Frag} {x k : Str} {vs : List He.Dv} (h : dtupB K x k vs = true) : PySem.W.nsIn K (He.ga K x) k = some (some (.ref (dtup K x k))) ∧ ∀ H, SqT K H (dtup K x k) (vs.map (He.Dv.v K)) := by
  unfold dtupB at h
  obtain ⟨h1, h2⟩ := He.ba h
  refine ⟨He.eqO_ok h1, fun H => .inr ?_⟩
  split at h2
  · rename_i e
    obtain ⟨g1, g2⟩ := He.ba h2
    obtain ⟨g3, g4⟩ := He.ba g2
    exact ⟨_, _, _, e, congrArg Value.type (of_decide_eq_true g1), rfl, of_decide_eq_true g3, He.relAll_ok g4⟩
  · cases h2
theorem tabs0 {K : PySem.W.Frag} {H : Hp} (h : ∀ p ∈ tf.map (He.cT K), H p.2 = some (.tbl #[])) : LamX.Tabs (LT K) H := fun p hp => by
  simp only [LT, List.mem_cons, List.not_mem_nil, or_false] at hp
  subst hp
  · exact LamX.TabS.nil (h (He.cT K ("law", none)) (List.mem_map.mpr ⟨("law", none), (by decide +kernel), rfl⟩))
section
variable {P : Program} {w : World} {K : PySem.W.Frag} {h : Heap} {mg : Str → Option Value} {base : Heap}
theorem df_of {CX : CXT} {x : Str} {st : Stmt} {f : Addr} {fd : FuncData} {ps : List Str} {k : Nat} {sp : Sp} (F : FunD K x x (defArgs st) (defBody st) (defScope st) [] [] f fd) (gl : mg x = some (.ref f)) (G : FnOk P w K mg base CX k f fd ps sp)
    (b : Binds K fd ps []) : Df P w K mg base CX k x ps sp := ⟨f, fd, G, gl, F.kp, b⟩
theorem facts {f : Addr} (X : K.In h) (G : h.Ns mainGlobals mg) (hfa : mg ("law" : Str) = some (.ref f)) (c : SaysU q fn ts w K) :
    ∃ fd : FuncData, (∀ (s : Shared) (v : Value), BindsTo s fd ⟨[v], []⟩ [("_law_script", v)]) ∧ ∀ base : Heap, K.In base → base.Ns mainGlobals mg → (∀ p ∈ tf.map (He.cT K), LamX.TabB base mg p.1 p.2) → FnOk P w K mg base CX0 8 f fd ["_law_script"] (spLawT K) := by
  obtain ⟨t1, t2⟩ := He.ba c.test
  have fa : ∀ (i : Nat) {u : He.Fa}, fas[i]? = some u → u.ok K = true := fun i u z => List.all_eq_true.mp t1 u (List.mem_of_getElem? z)
  have tq : ∀ (i : Nat) (b : Bool), (tst K)[i]? = some b → b = true := fun i b z => List.all_eq_true.mp t2 b (List.mem_of_getElem? z)
  obtain ⟨d16, F16⟩ := c.def_ 16 rfl
  have F16 : FnG K "law" i_law (He.ga K "law") d16 := F16
  have e := hfa.symm.trans (He.glo_ok X G (fa 16 (u := .glo "law") rfl))
  cases e
  have bl := FunD.bindsA (ps := ["_law_script"]) F16 fun _ _ _ _ _ _ us hl => match us, hl with | [_], _ => rfl
  refine ⟨d16, fun s v => bl s [v] rfl, fun base _ _ hTB => ?_⟩
  have TP : TxtP mg := ⟨(He.free_ok X G (fa 28 (u := .free "list") rfl)), (He.free_ok X G (fa 25 (u := .free "int") rfl)), (He.free_ok X G (fa 27 (u := .free "len") rfl))⟩
  have T : Tx K mg := ⟨TP, (He.free_ok X G (fa 35 (u := .free "str") rfl)), (He.free_ok X G (fa 26 (u := .free "isinstance") rfl)), (He.free_ok X G (fa 32 (u := .free "range") rfl)), (He.free_ok X G (fa 23 (u := .free "bool") rfl)), (He.free_ok X G (fa 24 (u := .free "enumerate") rfl)), (He.free_ok X G (fa 36 (u := .free "tuple") rfl)), (He.free_ok X G (fa 22 (u := .free "any") rfl)), (He.free_ok X G (fa 21 (u := .free "all") rfl)), (He.free_ok X G (fa 33 (u := .free "sorted") rfl)), (He.glo_ok X G (fa 19 (u := .glo "MEMBERS") rfl)), (He.int_ok X G (fa 20 (u := .int "MOST_COMPARED" 10000) rfl)), (He.glo_ok X G (fa 17 (u := .glo "Days") rfl)), (He.cls_ok (fa 37 (u := .cls "Days") rfl)), (He.noat_ok (fa 39 (u := .noat "Days" "pieces") rfl)), (He.noat_ok (fa 40 (u := .noat "Days" "_ones") rfl)), (He.noat_ok (fa 41 (u := .noat "Days" "_ups") rfl)), (He.noat_ok (fa 42 (u := .noat "Days" "_downs") rfl)), (He.noat_ok (fa 43 (u := .noat "Days" "_everys") rfl)), (He.noat_ok (fa 44 (u := .noat "Days" "_steps") rfl))⟩
  have g1_Tm : Tm K mg (He.ga K "BadPiece") (He.ga K "BadNumber") := ⟨(of_decide_eq_true (tq 14 _ rfl))⟩
  obtain ⟨d23, F23⟩ := c.def_ 23 rfl
  have F23 : FunD K "__init__" "BadPiece.__init__" (defArgs (inClass (top i_BadPiece) j_BadPiece___init__)) (defBody (inClass (top i_BadPiece) j_BadPiece___init__)) (defScope (inClass (top i_BadPiece) j_BadPiece___init__)) [] [] (He.ma K (He.ga K "BadPiece") "__init__") d23 := F23
  have e_BadPiece := errC_of (tq 2 _ rfl) (tq 4 _ rfl)
  obtain ⟨i1_BadPiece, i2_BadPiece, i3_BadPiece, i4_BadPiece⟩ := iniB_ok (tq 3 _ rfl)
  have i5_BadPiece := oexC_of e_BadPiece.be i1_BadPiece
  have i6_BadPiece := ok_BadPiece (P := P) (w := w) (mg := mg) (base := base) F23 i5_BadPiece i2_BadPiece
  have ER_BadPiece : Er P w K mg base "BadPiece" "index" (He.ga K "BadPiece") := ⟨He.glo_ok X G (fa 51 (u := .glo "BadPiece") rfl), i5_BadPiece, e_BadPiece, i2_BadPiece, He.exm_ok (fa 52 (u := .exm "BadPiece" "BadPiece" true) rfl), ⟨_, _, i3_BadPiece, i4_BadPiece, i6_BadPiece.1, i6_BadPiece.2⟩⟩
  obtain ⟨d22, F22⟩ := c.def_ 22 rfl
  have F22 : FunD K "__init__" "BadNumber.__init__" (defArgs (inClass (top i_BadNumber) j_BadNumber___init__)) (defBody (inClass (top i_BadNumber) j_BadNumber___init__)) (defScope (inClass (top i_BadNumber) j_BadNumber___init__)) [] [] (He.ma K (He.ga K "BadNumber") "__init__") d22 := F22
  have e_BadNumber := errC_of (tq 0 _ rfl) (tq 4 _ rfl)
  obtain ⟨i1_BadNumber, i2_BadNumber, i3_BadNumber, i4_BadNumber⟩ := iniB_ok (tq 1 _ rfl)
  have i5_BadNumber := oexC_of e_BadNumber.be i1_BadNumber
  have i6_BadNumber := ok_BadNumber (P := P) (w := w) (mg := mg) (base := base) F22 i5_BadNumber i2_BadNumber
  have ER_BadNumber : Er P w K mg base "BadNumber" "number" (He.ga K "BadNumber") := ⟨He.glo_ok X G (fa 49 (u := .glo "BadNumber") rfl), i5_BadNumber, e_BadNumber, i2_BadNumber, He.exm_ok (fa 50 (u := .exm "BadNumber" "BadNumber" true) rfl), ⟨_, _, i3_BadNumber, i4_BadNumber, i6_BadNumber.1, i6_BadNumber.2⟩⟩
  obtain ⟨d12, F12⟩ := c.def_ 12 rfl
  have F12 : FnG K "_law_draw" i__law_draw (He.ga K "_law_draw") d12 := F12
  have G_law_draw : Df P w K mg base CX0 1 "_law_draw" ["_law_pen_here", "_law_many"] spDraw := df_of F12 (He.glo_ok X G (fa 12 (u := .glo "_law_draw") rfl)) (ok_draw F12 TP) (F12.bindsN fun _ _ _ _ _ _ us hl => match us, hl with | [_, _], _ => rfl)
  obtain ⟨d13, F13⟩ := c.def_ 13 rfl
  have F13 : FnG K "_law_pick" i__law_pick (He.ga K "_law_pick") d13 := F13
  have G_law_pick : Df P w K mg base CX0 2 "_law_pick" ["_law_pen_here", "_law_some"] (spPick K) := df_of F13 (He.glo_ok X G (fa 13 (u := .glo "_law_pick") rfl)) (ok_pick F13 TP G_law_draw) (F13.bindsN fun _ _ _ _ _ _ us hl => match us, hl with | [_, _], _ => rfl)
  obtain ⟨d11, F11⟩ := c.def_ 11 rfl
  have F11 : FnG K "_law_pen" i__law_pen (He.ga K "_law_pen") d11 := F11
  have G_law_pen : Df P w K mg base CX0 1 "_law_pen" ["_law_script"] (spPen K) := df_of F11 (He.glo_ok X G (fa 11 (u := .glo "_law_pen") rfl)) (ok_pen F11 TP) (F11.bindsN fun _ _ _ _ _ _ us hl => match us, hl with | [_], _ => rfl)
  obtain ⟨d8, F8⟩ := c.def_ 8 rfl
  have F8 : FnG K "_law_pieces" i__law_pieces (He.ga K "_law_pieces") d8 := F8
  have D13_DDraw : DDraw P w K mg base := ⟨G_law_draw, G_law_pick⟩
  have G_law_pieces : Df P w K mg base CX0 3 "_law_pieces" ["_law_pen_here", "_law_many"] spLPieces := df_of F8 (He.glo_ok X G (fa 8 (u := .glo "_law_pieces") rfl)) (ok_lpieces F8 T D13_DDraw) (F8.bindsN fun _ _ _ _ _ _ us hl => match us, hl with | [_, _], _ => rfl)
  obtain ⟨d15, F15⟩ := c.def_ 15 rfl
  have F15 : FnG K "_law_no_piece" i__law_no_piece (He.ga K "_law_no_piece") d15 := F15
  have G_law_no_piece : Df P w K mg base CX0 3 "_law_no_piece" ["_law_pen_here"] spLNoP := df_of F15 (He.glo_ok X G (fa 15 (u := .glo "_law_no_piece") rfl)) (ok_lnop F15 D13_DDraw) (F15.bindsN fun _ _ _ _ _ _ us hl => match us, hl with | [_], _ => rfl)
  obtain ⟨d10, F10⟩ := c.def_ 10 rfl
  have F10 : FnG K "_law_in_pieces" i__law_in_pieces (He.ga K "_law_in_pieces") d10 := F10
  obtain ⟨d9, F9⟩ := c.def_ 9 rfl
  have F9 : FnG K "_law_in_piece" i__law_in_piece (He.ga K "_law_in_piece") d9 := F9
  have G_law_in_piece : Df P w K mg base CX0 1 "_law_in_piece" ["_law_piece", "_law_day"] spLInP := df_of F9 (He.glo_ok X G (fa 9 (u := .glo "_law_in_piece") rfl)) (ok_linp F9) (F9.bindsN fun _ _ _ _ _ _ us hl => match us, hl with | [_, _], _ => rfl)
  have D20_DLIn : DLIn P w K mg base := ⟨G_law_in_piece, (He.free_ok X G (fa 22 (u := .free "any") rfl))⟩
  have G_law_in_pieces : Df P w K mg base CX0 2 "_law_in_pieces" ["_law_pieces_here", "_law_day"] spLInPs := df_of F10 (He.glo_ok X G (fa 10 (u := .glo "_law_in_pieces") rfl)) (ok_linps F10 D20_DLIn) (F10.bindsN fun _ _ _ _ _ _ us hl => match us, hl with | [_, _], _ => rfl)
  obtain ⟨d14, F14⟩ := c.def_ 14 rfl
  have F14 : FnG K "_law_refusal" i__law_refusal (He.ga K "_law_refusal") d14 := F14
  obtain ⟨d17, F17⟩ := c.def_ 17 rfl
  have F17 : FunD K "__init__" "Days.__init__" (defArgs (inClass (top i_Days) j_Days___init__)) (defBody (inClass (top i_Days) j_Days___init__)) (defScope (inClass (top i_Days) j_Days___init__)) [] [] (He.ma K (He.ga K "Days") "__init__") d17 := F17
  obtain ⟨d6, F6⟩ := c.def_ 6 rfl
  have F6 : FnG K "_is_piece" i__is_piece (He.ga K "_is_piece") d6 := F6
  obtain ⟨esM, nM, tbM⟩ := c.tab 1 rfl
  have TQ : Tq K w := tq_of tbM (tq 13 _ rfl)
  obtain ⟨d5, F5⟩ := c.def_ 5 rfl
  have F5 : FnG K "is_integer" i_is_integer (He.ga K "is_integer") d5 := F5
  have G_is_integer : Df P w K mg base CX0 1 "is_integer" ["value"] spIsInt := df_of F5 (He.glo_ok X G (fa 5 (u := .glo "is_integer") rfl)) (ok_isInt F5 T) (F5.bindsN fun _ _ _ _ _ _ us hl => match us, hl with | [_], _ => rfl)
  have D28_DPiece : DPiece P w K mg base := ⟨G_is_integer, (He.free_ok X G (fa 21 (u := .free "all") rfl))⟩
  have G_is_piece : Df P w K mg base CX0 2 "_is_piece" ["piece"] spIsPiece := df_of F6 (He.glo_ok X G (fa 6 (u := .glo "_is_piece") rfl)) (ok_isPiece F6 T TQ D28_DPiece) (F6.bindsN fun _ _ _ _ _ _ us hl => match us, hl with | [_], _ => rfl)
  obtain ⟨d7, F7⟩ := c.def_ 7 rfl
  have F7 : FnG K "_starts" i__starts (He.ga K "_starts") d7 := F7
  have G_starts : Df P w K mg base CX0 1 "_starts" ["pieces", "word"] spStarts := df_of F7 (He.glo_ok X G (fa 7 (u := .glo "_starts") rfl)) (ok_starts F7 T) (F7.bindsN fun _ _ _ _ _ _ us hl => match us, hl with | [_, _], _ => rfl)
  have D32_DDaysI : DDaysI P w K mg base (He.ga K "BadPiece") := ⟨G_is_piece, G_starts, ER_BadPiece⟩
  have D34_DLaw : DLaw P w K mg base (He.ga K "BadPiece") (He.ga K "BadNumber") := ⟨G_law_draw, G_law_pick, G_law_pen, G_law_pieces, G_law_no_piece, G_law_in_pieces, ⟨_, ⟨F14, He.glo_ok X G (fa 14 (u := .glo "_law_refusal") rfl)⟩⟩, (He.free_ok X G (fa 22 (u := .free "any") rfl)), (He.mkr_ok (fa 38 (u := .mkr "Days") rfl)), ⟨d17, (ok_daysI F17 T D32_DDaysI), F17.bindsN fun _ _ _ _ _ _ us hl => match us, hl with | [_, _], _ => rfl⟩⟩
  obtain ⟨pd0, pg0⟩ := c.get_ 0 rfl (tq 12 _ rfl)
  have pg0 : FunD K "same" "Days.same" (defArgs (inClass (top i_Days) j_Days_same)) (defBody (inClass (top i_Days) j_Days_same)) (defScope (inClass (top i_Days) j_Days_same)) [] [] (gtA K ("Days", some "same")) pd0 := pg0
  obtain ⟨d18, F18⟩ := c.def_ 18 rfl
  have F18 : FunD K "__contains__" "Days.__contains__" (defArgs (inClass (top i_Days) j_Days___contains__)) (defBody (inClass (top i_Days) j_Days___contains__)) (defScope (inClass (top i_Days) j_Days___contains__)) [] [] (He.ma K (He.ga K "Days") "__contains__") d18 := F18
  obtain ⟨d21, F21⟩ := c.def_ 21 rfl
  have F21 : FunD K "_steps_on" "Days._steps_on" (defArgs (inClass (top i_Days) j_Days__steps_on)) (defBody (inClass (top i_Days) j_Days__steps_on)) (defScope (inClass (top i_Days) j_Days__steps_on)) [] [] (He.ma K (He.ga K "Days") "_steps_on") d21 := F21
  have M_Days_steps_on : Md P w K mg base (He.ga K "Days") CX0 1 "_steps_on" ["self", "day", "step"] (spStepsOn K) := ⟨_, _, He.meth_ok (fa 48 (u := .meth "Days" "_steps_on") rfl), (ok_stepsOn F21 T), F21.bindsN fun _ _ _ _ _ _ us hl => match us, hl with | [_, _, _], _ => rfl⟩
  have D39_DCon : DCon P w K mg base := ⟨G_is_integer, M_Days_steps_on, (He.free_ok X G (fa 22 (u := .free "any") rfl))⟩
  have M_Days_contains : Md P w K mg base (He.ga K "Days") CX0 2 "__contains__" ["self", "day"] (spContains K) := ⟨_, _, He.meth_ok (fa 45 (u := .meth "Days" "__contains__") rfl), (ok_contains F18 T D39_DCon), F18.bindsN fun _ _ _ _ _ _ us hl => match us, hl with | [_, _], _ => rfl⟩
  have D41_DSame : DSame P w K mg base (He.ga K "BadNumber") := ⟨G_is_integer, M_Days_contains, ER_BadNumber⟩
  exact (ok_law F16 T g1_Tm ER_BadPiece ER_BadNumber D34_DLaw ⟨.type "type", _, _, pd0, ⟨(tq 9 _ rfl), He.eqO_ok (tq 10 _ rfl)⟩, ⟨stat_at (He.eqO_ok (tq 8 _ rfl)) (He.eqO_ok (tq 5 _ rfl)) (of_decide_eq_true (tq 7 _ rfl)) (He.eqO_ok (tq 6 _ rfl)), recS_ok (tq 11 _ rfl)⟩, (ok_same pg0 T D41_DSame), pg0.kp, pg0.bindsN fun _ _ _ _ _ _ us hl => match us, hl with | [_, _, _, _], _ => rfl⟩ (hTB _ (List.mem_map.mpr ⟨("law", none), (by decide +kernel), rfl⟩)))
end
end Wd
end
section
set_option Elab.async false
set_option linter.all false
set_option maxRecDepth 100000
open PySem PySem.W PySem.Calls PyProof.Rows
set_option maxHeartbeats 0 in
theorem PySem.Challenge.cw_whoseday_k24_pieces_that_are_none_and_se_holds : PySem.Challenge.rw_whoseday_k24_pieces_that_are_none_and_se.Holds := by
  w_on; o_law
  refine HandSHeadRun.head_imp (r := Wd.R) (q := view Wd.R.prog [0, 30]) (H := Wd.hk) (ob := Wd.ob) (M := 12000) (loose := Wd.names) (d := HandSHeadRun.topDef Wd.R.prog 30) (kwd := []) Wd.ob_eq
    Wd.run (by kernel_rfl) (by kernel_rfl) (by kernel_rfl) (by rfl) (by first | assumption | decide +kernel) (by decide +kernel) ⟨rfl, rfl, rfl, rfl, rfl, by decide +kernel⟩ ?hw ?hc
  case hw => w_witness2
  case hc =>
    refine LamX.walk_ofTsE (l := PySem.Challenge.rw_whoseday_k24_pieces_that_are_none_and_se) (n := 63) (k := 8) (x := "_law_script") (CX := fun _ => L2.CX0) rfl (by decide) (by kernel_rfl) ⟨rfl, by decide, by decide⟩ ?F (fun _ _ _ _ _ z => z)
    intro w mg fa h Y G hmg0
    obtain ⟨K, KX, c⟩ := Y
    have hmg : mg ("law" : PySem.Str) = some (.ref fa) := by
      have e : (HandSHeadRun.topDef Wd.R.prog 30).name = ("law" : PySem.Str) := by kernel_rfl
      rw [← e]
      exact hmg0
    obtain ⟨fd, hb, hF⟩ := Wd.facts (P := (PySem.Challenge.rw_whoseday_k24_pieces_that_are_none_and_se).prog) (w := w) KX G hmg c.u
    have inT : ∀ p ∈ Wd.tf.map (He.cT K), ∃ d ∈ Wd.tf, He.cT K d = p := fun p hp => List.mem_map.mp hp
    refine ⟨K, KX, fd, Wd.tf.map (He.cT K), Wd.spLawT K, ?_, ?_, ?_, hb, fun H a ns hl _ hT hS => ⟨a, ns, rfl, hS, hl, ?_, fun _ => rfl⟩, hF⟩
    · intro p hp
      obtain ⟨d, hd, rfl⟩ := inT p hp
      exact c.empty d hd
    · intro p hp
      obtain ⟨d, hd, rfl⟩ := inT p hp
      exact c.out d hd
    · intro p hp
      obtain ⟨d, hd, rfl⟩ := inT p hp
      exact PySem.W.codeHd_of_K KX (c.hd d hd)
    · exact Wd.tabs0 hT
end
