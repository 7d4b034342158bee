import PyProof.Rows.All
import Wide.All
import OpenK.AllK
import Wide.FinOn
import KE.KStateDown
import KE.KExcIs
import KE.KIsAll
import HandS.ForMost
import HandS.ForExc
import HandS.ExcInit
import HandS.ExcValue
import HandS.IsInst
import HandS.Wide
import HandS.Defaults
import HandS.Small
import HandS.Head0
import HandS.Head1
import HandS.Head2
import HandS.HeadEnd
import HandS.HeadHook1
import HandS.HeadHook2
import HandS.NoneIn
import HandS.Conv
import HandS.Star
import HandS.Walk
import HandS.TupAny
import HandS.Deep
import HandS.Style
import KE.GoesEnumKw
import HandS.SortKw
import HandS.TupLen
import KE.KDictList
import HandS.Records
import KE.KUnpack
import HandS.HeadHook3
import HandS.Exc
import HandS.Head3
import Wide.Once
import HandS.HeadWalk
import HandS.StrMore
import KE.IntTextLaws
import HandS.ClsMeth
import HandS.WrittenGet
import HandS.DictComp
import KE.KDictDisplayH
import KE.GoesMore
import KE.GoesEnum
import HandS.SetBool
import HandS.Strs
import PyProof.SetRoads
import HandS.WordsExc
import HandS.ExcField
import KE.DataMinMax
import HandS.OwnIter
import HandS.IterVal
import HandS.Gcd
import HandS.TupSets
import KE.KOpsOwn
import HandS.SlotsOwn
import HandS.Evl
import KE.KSortTupUse
import PyProof.LongRange
import HandS.SetFor
import HandS.Property
import PyProof.NeKinds
import PySem.Challenge.RW_whoseday_k23_whole_sets_of_days
section
set_option Elab.async false
set_option linter.all false
set_option maxRecDepth 100000
set_option maxHeartbeats 4000000
/-! Errors as values: made, kept, read, asked for their class. -/
namespace Wd
open PySem PySem.Spec PyProof.Rows L2
section
variable {X : Cx} {x f : Str} {e : Expr} {es : List Expr} {te : TE} {ta : TA} {p pos : Pos}
/-- what is asked of a class of errors with an __init__ of its own, when one is made and kept -/
def tErr (C : Addr) (sp : Sp) (ta : TA) : TE := fun σ H Q =>
  ta σ H fun vs H1 => vs.length ≤ 1000 ∧
    ∀ a, H1 a = none → sp (.ref a :: vs) (upd H1 a (exo a C none)) (fun v H2 => v = .non ∧ Q (.ref a) H2) (fun _ _ _ => False)
theorem pe_err {CX : CXT} {C fI : Addr} {k : Nat} {fd : FuncData} {ps : List Str} {sp : Sp} (T : OexC X.K C)
    (iC : PySem.W.findIn X.K (.ref C) "__init__" = some (some (.ref fI)))
    (tI : PySem.W.typeIn X.K (.ref fI) = some (.type "function"))
    (G : FnOk X.prog X.w X.K X.mg X.base CX k fI fd ps sp) (hr : Room (k + 1) X.A) (hb : Binds X.K fd ps [])
    (hx : Passes CX X (fun _ _ _ => False)) (hg : Gl X x) (hm : X.mg x = some (.ref C)) (ha : PA X (e :: es) ta)
    (hdb : (x == ("__debug__" : Str)) = false := by decide)
    (he : starEach (e :: es) X.env = (false, eval e X.env) :: starEach es X.env := by rfl)
    (hpl : (backTo pos (starEach es X.env)).any (·.1) = false := by rfl) :
    PE X (.Call (.Name x p) (e :: es) [] pos) (tErr C sp ta) := by
  constructor
  intro pins s σ H Q I h
  obtain ⟨nm, q, N, bs, bm, sn, sub, ab, col, dd, k0, k1, k2, k3, k5, lC, tail⟩ := T.cls
  apply wpAny_Call_Name_kw
  apply ld_glob I hg hm _ hdb
  refine PySem.W.callWith_K (h₀ := X.base) I.ok.mod.kin T.kC
    (thn (ha.run pos pins s σ H _ I h) fun us s1 ⟨vs, H1, I1, rv, small, q1⟩ => ?_) he hpl
  refine ⟨I1.kIn, ?_⟩
  show wpAny _ _ (call (.ref C) us) _ _ _
  obtain ⟨hp, g, dr, tk, os⟩ := s1
  have up : hp.objs.size ≤ hp.objs.size + 1 := Nat.le_succ _
  have hn : H1 (hp.objs.size + 1) = none := I1.hok.fresh up
  have hq := q1 (hp.objs.size + 1) hn
  have there : ((hp.push (PySem.W.kdv_tup us)).push (PySem.HandSPX.excO C hp.objs.size)).get? (hp.objs.size + 1)
      = some (PySem.HandSPX.excO C hp.objs.size) := by heap_get
  have I2 := I1.laid (t' := tk) (a := hp.objs.size + 1) (o := exo (hp.objs.size + 1) C none)
    (h' := (hp.push (PySem.W.kdv_tup us)).push (PySem.HandSPX.excO C hp.objs.size))
    (fun b o z => Heap.get?_push_of_some _ (Heap.get?_push_of_some _ z)) up (exo_ok there)
  have r2 : Vals (V.ref (hp.objs.size + 1) :: vs) (Value.ref (hp.objs.size + 1) :: us) := .cons rfl rv
  have hl : (Value.ref (hp.objs.size + 1) :: us ++ []).length = ps.length := by
    rw [List.append_nil]
    have z := r2.length
    rw [G.len _ _ _ _ hq] at z
    exact z.symm
  have fits : us.length ≤ sizeLine := by
    rw [← Paired.length rv, sizeLine_eq]
    omega
  have bd := hb ⟨(hp.push (PySem.W.kdv_tup us)).push (PySem.HandSPX.excO C hp.objs.size), g, dr, tk, os⟩
    (Value.ref (hp.objs.size + 1) :: us) I2.kIn hl
  rw [List.append_nil] at bd
  apply wpAny_call
  refine PySem.HandSPX.call_own F.excBase_ValueError (fun Y => PySem.HandSPX.refsVE_contains Y bm tail)
    (I1.kIn _ _ lC) (PySem.W.looks_findIn I1.kIn iC) (fun self => PySem.W.bind_fn I1.kIn self tI) fits
    (codeAny_mono (G.run _ X.stack _ _ ⟨Value.ref (hp.objs.size + 1) :: us, []⟩ (Value.ref (hp.objs.size + 1) :: us)
      _ _ (fun _ _ _ => False) (hr.make C us []) (I2.env0.make C us []) bd r2 hq) ?_)
  intro r s' z
  cases r with
  | error er => exact hx pins σ _ _ er s' I2 z
  | ok fl =>
    cases fl with
    | next => exact False.elim z
    | brk => exact False.elim z
    | cont => exact False.elim z
    | ret u =>
      obtain ⟨v, H3, I3, rv3, ev, q3⟩ := I2.after z
      subst ev
      exact ⟨rv3, V.ref (hp.objs.size + 1), H3, I3, rfl, q3⟩
/-- an error of a class without an __init__ of its own -/
def tErr0 (C : Addr) : TE := fun _ H Q => ∀ a, H a = none → Q (.ref a) (upd H a (exo a C none))
theorem pe_err0 {C : Addr} (q : PySem.W.excIn X.K C He.veBase "ValueError.__new__" = true)
    (gC : X.mg x = some (.ref C)) (kC : PySem.W.keepIn X.K (.ref C) = true) (hg : Gl X x)
    (hdb : (x == ("__debug__" : Str)) = false := by decide) : PE X (.Call (.Name x p) [] [] pos) (tErr0 C) := by
  constructor
  intro pins s σ H Q I h
  apply wpAny_Call_Name_kw
  apply ld_glob I hg gC _ hdb
  refine PySem.W.callWith_K0 I.kIn kC ?_
  show wpAny _ _ (call (.ref C) []) _ _ _
  obtain ⟨bm, N, nm, qn, bs, hdct, sn, sub, ab, col, dd, k0, k1, k2, k3, k5, mN, hC, hN, hni, T⟩ := exc_obj I.kIn q
  refine wpAny_call_exc_subT F.excBase_ValueError T hC hN hni (fun h' a hm => ?_) (Nat.zero_le _)
  have hn : H a = none := I.hok.gone hm.new
  obtain ⟨t, ht, _, _⟩ := hm.there
  exact ⟨.ref a, _, I.laidN hm.keeps hm.new hn (exo_ok ht), rfl, h a hn⟩
/-- what the class at C says, so that its errors may be read and asked -/
structure ErrC (K : PySem.W.Frag) (C : Addr) : Prop where
  isC : (PySem.W.clsIn K C).isSome = true
  ga : PySem.W.findIn K (.ref C) "__getattribute__" = some (some (.builtin "BaseException.__getattribute__"))
  gg : PySem.W.findIn K (.ref C) "__getattr__" = some none
  be : PySem.W.subIn K (.ref C) (.type "BaseException") = some true
  hd : PySem.W.hasDictIn K C = true
  cc : PySem.W.findIn K (.ref C) "__class__" = some (some (.builtin "object.__class__"))
  cg : PySem.W.specialIn K (.builtin "object.__class__") "__get__" = some (some (.builtin "getset_descriptor.__get__"))
  ct : PySem.W.takesIn K (.builtin "object.__class__") = some true
  ob : PySem.W.mroIn K C (.type "object") = some true
/-- at a an error of the class at C, with a dict of these fields, or with none -/
def ErrAt (C a : Addr) (fs : List (Str × V)) (H : Hp) : Prop :=
  (H a = some (exo a C none) ∧ fs = []) ∨ ∃ d, H a = some (exo a C (some d)) ∧ H d = some (exd d fs)
theorem ErrAt.inst {C a : Addr} {fs : List (Str × V)} {pins : List (Addr × Obj)} {σ : L2.St} {H : Hp} {s : Shared} (I : L2.Inv X pins σ H s) (h : ErrAt C a fs H) :
    ∃ ox od, PySem.W.InstAt s.heap a ox C od ∧ ∀ v, fs.lookup f = some v → ∃ o u, od = some o ∧ PySem.W.lookIn f o = some (some u) ∧ RelV v u := by
  rcases h with ⟨ha, rfl⟩ | ⟨d, ha, hd⟩
  · obtain ⟨t1, ho⟩ := exo_at I.hok ha
    exact ⟨_, none, ⟨ho, rfl, rfl, True.intro⟩, fun v z => nomatch z⟩
  · obtain ⟨t1, ho⟩ := exo_at I.hok ha
    obtain ⟨mA, hns, rel⟩ := exd_at I.hok hd
    obtain ⟨od, hod, hl⟩ := lookIn_ns hns
    refine ⟨_, some od, ⟨ho, rfl, rfl, hod⟩, fun v z => ?_⟩
    have r := rel f
    rw [z] at r
    cases hm : mA f with
    | none =>
      rw [hm] at r
      exact r.elim
    | some u =>
      rw [hm] at r
      exact ⟨od, u, rfl, by rw [hl, hm], r⟩
/-- e.f of an error that is kept -/
def tErrF (K : PySem.W.Frag) (f : Str) (te : TE) : TE := fun σ H Q =>
  te σ H fun x H1 => ∃ a C fs v, x = .ref a ∧ ErrC K C ∧ PySem.W.findIn K (.ref C) f = some none ∧ ErrAt C a fs H1 ∧ fs.lookup f = some v ∧ Q v H1
theorem pe_errF (he : PE X e te) (hb : attributeBase e f X.env (eval e X.env) = eval e X.env := by rfl) :
    PE X (.Attribute e f pos) (tErrF X.K f te) := by
  constructor
  intro pins s σ H Q I h
  apply attr_of hb
  refine thn (he.run pins s σ H _ I h) fun w s1 ⟨y, H1, I1, ry, a, C, fs, v, ex, T, hno, at_, hv, q⟩ => ?_
  subst ex
  obtain rfl : w = Value.ref a := ry
  obtain ⟨ox, od, J, look⟩ := at_.inst (f := f) I1
  obtain ⟨o, u, rfl, lu, ru⟩ := look v hv
  exact PySem.HandSPX.exc_get I1.kIn J T.ga T.gg T.be (PySem.W.findObj_own T.hd hno rfl lu) (handed_of ru)
    ⟨v, H1, I1.tok _, ru, q⟩
/-- isinstance(e, c) of an error that is kept -/
def rErrIs (K : PySem.W.Frag) : List V → Hp → VK → Prop := fun xs H Q =>
  ∃ (a C : Addr) (fs : List (Str × V)) (c : V) (u : Value) (b : Bool), xs = [.ref a, c] ∧ ErrC K C ∧ ErrAt C a fs H ∧ ClsV c u ∧
    PySem.W.kitOne K (.ref C) u = some b ∧ Q (.bl b) H
theorem call_errIs : CallR X (.builtin "isinstance") (rErrIs X.K) := by
  intro pins s σ H xs us Q I r h
  obtain ⟨a, C, fs, c, u, b, rfl, T, at_, k, e, q⟩ := h
  obtain ⟨u1, u2, rfl, r1, r2⟩ := vals2 r
  obtain rfl : u1 = Value.ref a := r1
  obtain rfl := k.eq r2
  obtain ⟨ox, od, J, _⟩ := at_.inst (f := "x") I
  exact PySem.W.kia_one (PySem.W.kitx_exc T.isC T.ga T.gg T.be T.cc T.cg T.ct T.ob) I.kIn J e (fun z => nomatch z)
    fun tk => ⟨.bl b, H, I.tok tk, rfl, q⟩
end
end Wd
end
section
set_option Elab.async false
set_option linter.all false
set_option maxRecDepth 100000
set_option maxHeartbeats 4000000
namespace Wd
open PySem PySem.Spec PyProof.Rows L2
section
variable {X : Cx}
theorem bound_ne {M : Model} {A : Around} {E : Value → Shared → Prop} {s : Shared} {K : PySem.W.Frag} {a C : Addr} {ox : Obj} {od : Option Obj} {args : List Value} {Q : Option Value → Shared → Prop}
    (kin : K.In s.heap) (J : PySem.W.InstAt s.heap a ox C od)
    (hn : PySem.W.findIn K (.ref C) "__ne__" = some (some (.builtin "object.__ne__")))
    (h : wpAny M A (call (.builtin "object.__ne__") (.ref a :: args)) (fun v => Q (some v)) E s) :
    wpAny M A (callSpecialIfBound? (.ref a) "__ne__" args) Q E s := by
  have last : wpAny M A (call (.builtin "object.__ne__") ([.ref a] ++ args) >>= fun v => pure (some v)) Q E s :=
    wpAny_bind (wpAny_mono h (fun _ _ z => wpAny_pure z) fun _ _ z => z)
  unfold callSpecialIfBound? bindSpecialIfBound?
  refine wpAny_holding ?_
  refine wpAny_bind (wpAny_bind (wpAny_bind ?_))
  refine J.type.here ((PySem.W.looks_findIn kin hn).here ?_)
  refine wpAny_bind (wpAny_askSetting (wpAny_ite ?_))
  split
  · refine wpAny_bind (wpAny_of_eq (PySem.F.cmp_object.ne.bind _) ?_)
    exact wpAny_pure (by exact last)
  · refine wpAny_tryCatch (wpAny_bind (wpAny_of_eq (PySem.F.cmp_object.ne.bind _) ?_))
    exact wpAny_pure (by exact last)
/-- x != y of two instances of one class that has an == of its own -/
def rNeO (C : Addr) (sp : Sp) : R2 := fun x y H Q =>
  ∃ a b dx dy fs gs, x = .ref a ∧ y = .ref b ∧ H a = some (.ins C dx fs) ∧ H b = some (.ins C dy gs) ∧
    sp [.ref a, .ref b] H (fun v H' => ∃ t, v = .bl t ∧ Q (.bl (!t)) H') (fun _ _ _ => False)
theorem op_neO {CX : CXT} {C f : Addr} {k : Nat} {fd : FuncData} {ps : List Str} {sp : Sp}
    (G : FnOk X.prog X.w X.K X.mg X.base CX k f fd ps sp) (hr : Room (k + 2) X.A)
    (he : PySem.W.findIn X.K (.ref C) "__eq__" = some (some (.ref f)))
    (hn : PySem.W.findIn X.K (.ref C) "__ne__" = some (some (.builtin "object.__ne__")))
    (hm : PySem.W.mroIn X.K C (.type "object") = some true) (hf : PySem.W.isFn X.K (.ref f) = true)
    (hb : Binds X.K fd ps []) (hx : Passes CX X (fun _ _ _ => False)) : OpR X (compareOp .NotEq) (rNeO C sp) := by
  intro pins s σ H x y v u Q I rx ry h
  obtain ⟨a, b, dx, dy, fs, gs, rfl, rfl, ha, hb', q⟩ := h
  obtain rfl : v = Value.ref a := rx
  obtain rfl : u = Value.ref b := ry
  obtain ⟨mA, J, _⟩ := ins_get I.hok ha
  obtain ⟨mB, J', _⟩ := ins_get I.hok hb'
  obtain ⟨od, J, _⟩ := J.look
  obtain ⟨od', J', _⟩ := J'.look
  have env : Env0 X.prog X.w X.K X.mg X.base X.A.in1 X.stack s H := by
    have e := I.env0
    exact ⟨e.frames, e.mod, e.bs, e.bsz, e.funs, e.frf, e.hok, e.bare⟩
  have hl := G.len _ _ _ _ q
  have bd := hb s [.ref a, .ref b] I.kIn (by simpa using hl)
  rw [List.append_nil] at bd
  have inner : wpAny (model X.prog X.w) X.A.in1 (call (.ref f) [.ref a, .ref b])
      (fun r s' => ∃ t, r = .bool t ∧ EP X pins σ Q (.bool (!t)) s') X.xe s := by
    refine wpAny_call (codeAny_mono (G.run X.A.in1 X.stack s H ⟨[.ref a, .ref b], []⟩ [.ref a, .ref b] [.ref a, .ref b]
      _ _ (hr.mono (by omega) : Room (k + 1) X.A).in1 env bd (.cons rfl (.cons rfl .nil)) q) ?_)
    intro r s' z
    cases r with
    | error er => exact hx pins σ H s er s' I z
    | ok fl =>
      cases fl with
      | next => exact False.elim z
      | brk => exact False.elim z
      | cont => exact False.elim z
      | ret w =>
        obtain ⟨z1, H2, I2, r2, t, rfl, q2⟩ := I.after z
        obtain rfl : w = Value.bool t := r2
        exact ⟨t, rfl, .bl (!t), H2, I2, rfl, q2⟩
  have hu1 : X.A.in1.units < cLine := ((hr.mono (by omega) : Room 1 X.A).in1).units0
  have one : wpAny (model X.prog X.w) X.A (tryCompare (.ref a) "__ne__" (.ref b))
      (fun r s' => ∃ t, r = some (.bool t) ∧ EP X pins σ Q (.bool t) s') X.xe s := by
    unfold tryCompare
    refine wpAny_bind (bound_ne I.kIn J hn ?_)
    refine wpAny_call (codeAny_call_builtin PySem.F.cmp_object.ne.plain PySem.F.cmpEntry_ne ?_)
    refine PySem.W.check_slot PySem.F.cmpKind_ne PySem.F.cmpSplit_ne (J.type.andThen (PySem.W.looks_mroIn I.kIn hm)) (PySem.F.cmpArgs_ne _ _) ?_
    unfold Builtin.«object.__ne__»
    repeat (first
      | with_reducible refine wpAny_cRoomFor hu1 ?_
      | (refine wpAny_bind (m := callSpecialIfBound? (.ref a) (PySem.Str.ofString "__eq__") [.ref b])
          (PySem.W.ifBound_K I.kIn J he hf (wpAny_mono inner (fun r s' z => ?_) fun _ _ z => z))
         obtain ⟨t, rfl, z⟩ := z)
      | wp_step)
    exact ⟨!t, rfl, z⟩
  have same : PySem.W.notFirst X.K C (.ref C) = true := by simp [PySem.W.notFirst]
  show wpAny (model X.prog X.w) X.A (richCompare .NotEq (.ref a) (.ref b)) (EP X pins σ Q) X.xe s
  unfold richCompare
  simp only [oneThing_ref]
  refine wpAny_holding (wpAny_bind (wpAny_cRoomFor hr.units0 ?_))
  rw [cmpInfo_NotEq]
  dsimp only
  refine wpAny_bind (J.type.here (wpAny_bind (J'.type.here ?_)))
  rw [show (Value.ref C != Value.ref C) = false from by simp]
  simp only [Bool.false_eq_true, if_false]
  refine wpAny_bind (wpAny_pure ?_)
  simp only [Bool.false_eq_true, if_false]
  refine wpAny_bind (wpAny_mono one (fun r s' z => ?_) fun _ _ z => z)
  obtain ⟨t, rfl, z⟩ := z
  first | exact wpAny_pure z | exact wpAny_pure (wpAny_pure z)
end
end Wd
end
section
set_option Elab.async false
set_option linter.all false
set_option maxRecDepth 100000
set_option maxHeartbeats 4000000
/-! Dicts whose keys are tuples in which None may stand. -/
namespace Wd
open PySem PySem.Spec PyProof.Rows L2
abbrev OKey := Option Key
def oKV : OKey → V
  | none => .non
  | some k => kV k
theorem oKV_is {P : Program} {w : World} {k : OKey} {u : Value} (r : RelV (oKV k) u) : (noneKind P w).is k u = true := by
  cases k with
  | none =>
    obtain rfl : u = Value.none := r
    rfl
  | some k => exact kV_is (P := P) (w := w) r
theorem oItems {P : Program} {w : World} : ∀ {ks : List OKey} {us : List Value}, Vals (ks.map oKV) us → ItemsAre (noneKind P w) ks us
  | [], _, r => by rw [List.map_nil] at r; cases r; exact .nil
  | k :: ks, _, r => by
    rw [List.map_cons] at r
    cases r with
    | cons h t => exact .cons (oKV_is h) (oItems t)
abbrev ORow := List OKey × Addr × V
/-- what the object at a is: a dict of these keys, key tuples and values -/
def odP (P : Program) (w : World) (a : Addr) (kvs : List ORow) : Heap → Prop := fun h =>
  (a == sysModules) = false ∧ kvs.length ≤ sizeLine ∧ ∃ xs : List (List OKey × Addr × Value), Paired (fun (p : ORow) q => p.1 = q.1 ∧ p.2.1 = q.2.1 ∧ RelV p.2.2 q.2.2) kvs xs ∧
    ∃ o es ep, h.get? a = some o ∧ o.ExactDict ∧ o.data = .dict es ep ∧ es.toList = xs.map (entryOfKey (tupleKind (noneKind P w))) ∧ (xs.map (·.1)).Nodup
def odO (P : Program) (w : World) (a : Addr) (kvs : List ORow) : HO := .ext (odP P w a kvs)
/-- a dict of this kind at a -/
structure OD (P : Program) (w : World) (H : Hp) (a : Addr) (kvs : List ORow) : Prop where
  at_ : H a = some (odO P w a kvs)
  keys : ∀ x ∈ kvs, H x.2.1 = some (.tup (x.1.map oKV))
def oVal (kvs : List ORow) (k : List OKey) : Option V := (kvs.find? fun x => decide (x.1 = k)).map (·.2.2)
theorem od_ok {P : Program} {w : World} {H : Hp} {h : Heap} {a : Addr} {kvs : List ORow} (p : odP P w a kvs h) : ObjOk P w H h a (odO P w a kvs) := by
  refine ⟨p, ?_, fun h1 h2 q st => ?_⟩
  · obtain ⟨_, _, xs, _, o, es, ep, ho, _⟩ := p
    exact ⟨o, ho⟩
  · obtain ⟨a1, a2, xs, r, o, es, ep, ho, q⟩ := q
    exact ⟨a1, a2, xs, r, o, es, ep, st _ ho, q⟩
theorem oVal_rel {kvs : List ORow} {xs : List (List OKey × Addr × Value)} (r : Paired (fun (p : ORow) q => p.1 = q.1 ∧ p.2.1 = q.2.1 ∧ RelV p.2.2 q.2.2) kvs xs) (k : List OKey) :
    RelO (oVal kvs k) ((atKey xs k).map (·.2)) := by
  induction r with
  | nil => exact True.intro
  | @cons p q ps qs h t ih =>
    obtain ⟨h1, _, h2⟩ := h
    by_cases e : p.1 = k
    · have e' : q.1 = k := h1.symm.trans e
      have a : oVal (p :: ps) k = some p.2.2 := by simp [oVal, List.find?_cons, e]
      have b : atKey (q :: qs) k = some q.2 := by simp [atKey, List.find?_cons, e']
      rw [a, b]
      exact h2
    · have e' : ¬ q.1 = k := fun z => e (h1.trans z)
      have a : oVal (p :: ps) k = oVal ps k := by simp [oVal, List.find?_cons, e]
      have b : atKey (q :: qs) k = atKey qs k := by simp [atKey, List.find?_cons, e']
      rw [a, b]
      exact ih
section
variable {P : Program} {w : World} {H : Hp} {h : Heap} {a b : Addr} {kvs : List ORow} {ks : List OKey}
theorem oKey_of (ok : HOk P w H h) (e : H b = some (.tup (ks.map oKV))) : (tupleKind (noneKind P w)).is h ks b := by
  obtain ⟨_, its, r, o, h1, h2, n, h3⟩ := (show ObjOk P w H h b (.tup (ks.map oKV)) from ok b _ e)
  exact ⟨o, its.toArray, n, h1, h2, h3, by simpa using oItems r⟩
theorem OD.of (ok : HOk P w H h) (d : OD P w H a kvs) : (a == sysModules) = false ∧ kvs.length ≤ sizeLine ∧ ∃ xs : List (List OKey × Addr × Value), Paired (fun (p : ORow) q => p.1 = q.1 ∧ p.2.1 = q.2.1 ∧ RelV p.2.2 q.2.2) kvs xs ∧
    h.DictOfH (tupleKind (noneKind P w)) a xs := by
  obtain ⟨⟨hs, hz, xs, r, o, es, ep, ho, hx, hd, he, hn⟩, _, _⟩ := (show ObjOk P w H h a (odO P w a kvs) from ok a _ d.at_)
  refine ⟨hs, hz, xs, r, o, es, ep, ho, hx, hd, he, fun x hm => ?_, hn⟩
  have all : ∀ {l : List ORow} {m : List (List OKey × Addr × Value)}, Paired (fun (p : ORow) q => p.1 = q.1 ∧ p.2.1 = q.2.1 ∧ RelV p.2.2 q.2.2) l m → (∀ x ∈ l, H x.2.1 = some (.tup (x.1.map oKV))) → ∀ x ∈ m, (tupleKind (noneKind P w)).is h x.1 x.2.1 := by
    intro l m q
    induction q with
    | nil => intro _ x hx; exact nomatch hx
    | @cons p q ps qs hq t ih =>
      intro hk x hx
      rcases List.mem_cons.mp hx with e | hx
      · subst e
        have := hk p List.mem_cons_self
        rw [hq.1, hq.2.1] at this
        exact oKey_of ok this
      · exact ih (fun y hy => hk y (List.mem_cons_of_mem _ hy)) x hx
  exact all r d.keys x hm
end
section
variable {X : Cx} {o i e value : Expr} {td ty tv : TE} {pos pos' : Pos}
/-- {}, to be such a dict -/
theorem pe_dnewO : PE X (.Dict [] [] pos) (fun _ H Q => ∀ p, H p = none → Q (.ref p) (upd H p (odO X.prog X.w p []))) := ⟨fun pins s σ H Q I h =>
  wpAny_Dict_empty ⟨.ref s.heap.objs.size, _, I.laid (a := s.heap.objs.size) (o := odO X.prog X.w s.heap.objs.size []) (t' := s.toks) (fun _ _ q => Heap.get?_push_of_some _ q) (Nat.le_refl _)
    (od_ok ⟨beq_eq_false_iff_ne.mpr (Ne.symm (Nat.ne_of_lt I.big)), Nat.zero_le _, [], .nil, _, #[], 0, Heap.get?_push_size _ rfl, ⟨rfl, rfl, rfl⟩, rfl, rfl, List.nodup_nil⟩), rfl, h _ (I.hok.fresh (Nat.le_refl _))⟩⟩
/-- y not in d -/
def tONotIn (P : Program) (w : World) (ty td : TE) : TE := fun σ H Q => ty σ H fun y H1 => td σ H1 fun x H2 => ∃ a b kvs k, x = .ref a ∧ y = .ref b ∧ OD P w H2 a kvs ∧ H2 b = some (.tup (k.map oKV)) ∧ Q (.bl (!(oVal kvs k).isSome)) H2
theorem pc_onotin (hu : X.A.units + 1 < cLine) (hi : PE X i ty) (ho : PE X o td) : PC X .NotIn i o (tONotIn X.prog X.w ty td) := by
  refine ⟨fun pins s σ H Q I h => ?_⟩
  refine thn (hi.run pins s σ H _ I h) fun iv s1 ⟨y, H1, I1, ry, q1⟩ => thn (ho.run pins s1 σ H1 _ I1 q1) fun u s2 ⟨x, H2, I2, rx, a, b, kvs, k, ex, ey, d, hb, q2⟩ => ?_
  subst ex ey
  obtain rfl : u = Value.ref a := rx
  obtain rfl : iv = Value.ref b := ry
  obtain ⟨hs, hz, xs, rel, dd⟩ := d.of I2.hok
  refine wpAny_notIn_heap (tupleKind_room_in1 hu) (oKey_of I2.hok hb) hs dd ?_
  have q := (oVal_rel rel k).isSome_eq
  rw [Option.isSome_map] at q
  rw [← q]
  exact ⟨.bl _, H2, I2.tok _, rfl, q2⟩
/-- d[y] -/
def tOGet (P : Program) (w : World) (td ty : TE) : TE := fun σ H Q => td σ H fun x H1 => ty σ H1 fun y H2 => ∃ a b kvs k v, x = .ref a ∧ y = .ref b ∧ OD P w H2 a kvs ∧ H2 b = some (.tup (k.map oKV)) ∧ oVal kvs k = some v ∧ Q v H2
theorem pe_oget (hu : X.A.units + 1 < cLine) (ho : PE X o td) (hi : PE X i ty) (hs : NoSl i) : PE X (.Subscript o i pos) (tOGet X.prog X.w td ty) := by
  refine ⟨fun pins s σ H Q I h => ?_⟩
  refine subD_of PySem.F.slot_dict_getitem.lookup hs (thn (ho.run pins s σ H _ I h) fun u s1 ⟨x, H1, I1, rx, q1⟩ => thn (hi.run pins s1 σ H1 _ I1 q1) fun iv s2 ⟨y, H2, I2, ry, a, b, kvs, k, v, ex, ey, d, hb, hv, q2⟩ => ?_)
  subst ex ey
  obtain rfl : u = Value.ref a := rx
  obtain rfl : iv = Value.ref b := ry
  obtain ⟨hs, hz, xs, rel, dd⟩ := d.of I2.hok
  obtain ⟨w', hw, rw'⟩ := RelO.some_of (v := v) (o := (atKey xs k).map (·.2)) (by rw [← hv]; exact oVal_rel rel k)
  obtain ⟨p, hp, hp2⟩ := Option.map_eq_some_iff.mp hw
  refine ⟨dd.typeIs, wpAny_getItem_heap (tupleKind_room_in1 hu) (oKey_of I2.hok hb) dd hp ?_⟩
  rw [hp2]
  exact ⟨v, H2, I2.tok _, rw', q2⟩
/-- d[y] = v, y new -/
def sOPut (P : Program) (w : World) (td ty tv : TE) : TS := fun D σ H => tv σ H fun v H1 => td σ H1 fun x H2 => ty σ H2 fun y H3 => ∃ a b kvs k, x = .ref a ∧ y = .ref b ∧ OD P w H3 a kvs ∧ H3 b = some (.tup (k.map oKV)) ∧ oVal kvs k = none ∧ kvs.length < sizeLine ∧
  D.nx σ (upd H3 a (odO P w a (kvs ++ [(k, b, v)])))
theorem ps_oput (hu : X.A.units + 1 < cLine) (ho : PE X o td) (hi : PE X i ty) (hv : PE X value tv) (hs : swapsWith value (some (.Subscript o i pos')) pos.line X.env = pure false) :
    PS X (.Assign [.Subscript o i pos'] value pos) (sOPut X.prog X.w td ty tv) := by
  refine ⟨fun pins s σ H D I h => ?_⟩
  refine wpAny_Assign_Subscript (thn (hv.run pins s σ H _ I h) fun r s1 ⟨v, H1, I1, rv, q1⟩ => thn (ho.run pins s1 σ H1 _ I1 q1) fun u s2 ⟨x, H2, I2, rx, q2⟩ => thn (hi.run pins s2 σ H2 _ I2 q2) fun iv s3 ⟨y, H3, I3, ry, a, b, kvs, k, ex, ey, d, hb, hn, hz, q3⟩ => ?_) hs
  subst ex ey
  obtain rfl : u = Value.ref a := rx
  obtain rfl : iv = Value.ref b := ry
  obtain ⟨hs, hz', xs, rel, dd⟩ := d.of I3.hok
  have hl : kvs.length = xs.length := Paired.length rel
  have hnone : atKey xs k = none := by
    have q := (oVal_rel rel k).isSome_eq
    rw [hn, Option.isSome_map] at q
    cases e : atKey xs k with
    | none => rfl
    | some _ => rw [e] at q; cases q
  refine wpAny_setItem_heap (hsz := by omega) (tupleKind_room_in1 hu) (oKey_of I3.hok hb) dd fun h' dd' hs' => ?_
  refine ⟨σ, _, d_write (t' := _) I3 (by rw [d.at_]; exact True.intro) hs' ?_ (od_ok ?_), q3⟩
  · obtain ⟨o, _, _, ho, _⟩ := dd'
    exact ⟨o, ho⟩
  · obtain ⟨o, es, ep, ho, h2, h3, h4, _, h5⟩ := dd'
    rw [storedH_new hnone] at h4 h5
    exact ⟨hs, by rw [List.length_append]; show kvs.length + 1 ≤ _; omega, _, Paired.snoc rel ⟨rfl, rfl, rv⟩, o, es, ep, ho, h2, h3, h4, h5⟩
end
/-- all but what .ext tells stays -/
def SaX (H H' : Hp) : Prop := ∀ b o, H b = some o → (∀ φ, o ≠ .ext φ) → H' b = some o
theorem SaX.refl {H : Hp} : SaX H H := fun _ _ h _ => h
theorem SaX.trans {H H1 H2 : Hp} (x : SaX H H1) (y : SaX H1 H2) : SaX H H2 := fun b o h n => y b o (x b o h n) n
theorem SaX.of {H H' : Hp} (x : Same H H') : SaX H H' := fun b o h _ => x b o h
theorem SaX.upd {H : Hp} {a : Addr} {φ φ' : Heap → Prop} (h : H a = some (.ext φ)) : SaX H (upd H a (.ext φ')) := fun b o z n => by
  rw [upd_ne (fun e => n φ (by rw [e, h] at z; exact (Option.some.inj z).symm))]
  exact z
end Wd
end
section
set_option Elab.async false
set_option linter.all false
set_option maxRecDepth 100000
set_option maxHeartbeats 1000000
/-! enumerate(list, start=1). -/
namespace Wd
open PySem PySem.Spec PyProof.Rows L2
theorem callWith_typeKw {M : Model} {A : Around} {E : Value → Shared → Prop} {s : Shared} {env : Env} {pos : Pos} {T : String} {e : Expr} {rest : List Expr} {kws : List Keyword} {Q : Value → Shared → Prop}
    (h : wpAny M A (spliced (backTo pos (starEach (e :: rest) env))) (fun vs s₁ => wpAny M A (evalAll ((backToKw pos (keywordEach kws env)).map (·.2)))
      (fun kvs s₂ => wpAny M A (call (.type T) vs (((backToKw pos (keywordEach kws env)).filterMap (·.1)).zip kvs)) Q E s₂) E s₁) E s)
    (he : backTo pos (starEach (e :: rest) env) = (false, eval e env) :: backTo pos (starEach rest env))
    (hplain : (backTo pos (starEach (e :: rest) env)).any (·.1) = false)
    (hall : (backToKw pos (keywordEach kws env)).all (·.1.isSome) = true)
    (hkw : (backToKw pos (keywordEach kws env)).any (·.1.isNone) = false) :
    wpAny M A (callWith pos (.type T) [] (backTo pos (starEach (e :: rest) env)) (backToKw pos (keywordEach kws env))) Q E s := by
  have h2 : wpAny M A (evalArgs (.type T) true (backTo pos (starEach (e :: rest) env)) (backToKw pos (keywordEach kws env))) (fun a s₁ => wpAny M A (call (.type T) ([] ++ a.pos) a.kw) Q E s₁) E s := by
    rw [he] at h ⊢
    exact PyProof.Rows.evalArgs_kwB hall h
  unfold callWith
  refine wpAny_bind (wpAny_holding (wpAny_mono h2 (fun a s₁ h₁ => wpAny_bind (wpAny_standAt ?_)) fun _ _ x => x))
  simp only [hplain, hkw, Bool.or_false]
  refine wpAny_bind (wpAny_pure ?_)
  exact wpAny_bind (wpAny_mono h₁ (fun r s₂ hr => wpAny_bind (wpAny_holding (wpAny_point (wpAny_pure hr)))) fun _ _ x => x)
/-- the list at a as it stands at each turn, each item in a new pair, the numbers from 1 on -/
def Ite1 (K : PySem.W.Frag) (a : Addr) : It :=
  ⟨fun i H => ∃ (xs : List V) (x : V), SqL K H a xs ∧ xs[i]? = some x, fun i H v H' => ∃ T x, v = .ref T ∧ H T = none ∧ H' = upd H T (.tup [.int (1 + (i : Int)), x]) ∧ ∀ xs, SqL K H a xs → xs[i]? = some x, fun i H => ∃ xs : List V, SqL K H a xs ∧ xs.length ≤ i⟩
theorem enum_end1 {prog : Program} {w : World} {A : Around} {E : Value → Shared → Prop} {s : Shared} {e it l : Addr} {i : Nat} {c : Int} {items : Array Value} {old : Value} {Q : Option Value → Shared → Prop} (hh : A.handled = none)
    (he : IsEnum s.heap e it c old) (hit : s.heap.IsListIter it l i) (hl : s.heap.IsList l items) (hx : items[i]? = none)
    (hQ : ∀ h', Heap.ExtBut it s.heap h' → Q none { s with heap := h' }) : wpAny (model prog w) A (pyNext (.ref e)) Q E s := by
  have hT : s.TypeIs (.ref e) "enumerate" := ⟨_, he, rfl⟩
  unfold pyNext
  refine wpAny_bind (wpAny_attempt (wpAny_callSpecial?_slot (name := Str.ofString "__next__") hT F.slot_enumerate_next
    (wpAny_call_entry F.slot_enumerate_next hT F.entry_enumerate_next ?_ (F.args_enumerate_next_1 _))))
  show wpAny _ _ (field (.ref e) 2 >>= _) _ _ _
  refine wpAny_bind (wpAny_field he rfl (x := .ref it) rfl ?_)
  refine wpAny_bind (wpAny_nextOf_list_end hh hit hl hx fun h' x he' hx' => ?_)
  obtain ⟨o, ho, hc⟩ := hx'
  refine wpAny_bind (wpAny_isInstance (T := "StopIteration") (b := true) ⟨o, ho, hc⟩ isSubtype_stop ?_)
  exact wpAny_pure (hQ _ he')
theorem turn_enum1 {P : Program} {w : World} {K : PySem.W.Frag} {elts : List Expr} {kk : Nat} {tpos : Pos} (a e it : Addr) :
    Turn P w K (.Tuple elts kk tpos) (Ite1 K a) [e, it] e (fun i h => (∃ old, IsEnum h e it (1 + (i : Int)) old) ∧ h.IsListIter it a i ∧ e ≠ it) where
  mem := by simp
  obj := fun i h st b hb => by
    obtain ⟨⟨old, he⟩, ⟨o, ho, hc, hd⟩, _⟩ := st
    have e' : b = e ∨ b = it := by simpa using hb
    rcases e' with z | z
    · rw [z]; exact ⟨_, he, fun v q => nomatch q⟩
    · rw [z]; exact ⟨o, ho, fun v q => by rw [hd] at q; cases q⟩
  keep := fun i h h' st k => let ⟨⟨old, he⟩, hi, hne⟩ := st; ⟨⟨old, k e (by simp) _ he⟩, hi.at fun o q => k it (by simp) o q, hne⟩
  item := by
    intro X hP hw hK hc i pins s σ H E I hf st hg
    subst hP hw hK
    obtain ⟨⟨old, he⟩, hit, hne⟩ := st
    obtain ⟨xs, x, hq, hx⟩ := hg
    obtain ⟨its, rv, p, hz⟩ := I.list hq
    obtain ⟨u, hu, ru⟩ := rv.get hx
    have hel : e < s.heap.objs.size := Heap.lt_size he
    have hil : it < s.heap.objs.size := by obtain ⟨_, q, _⟩ := hit; exact Heap.lt_size q
    have hal : a ≠ it := by
      rintro rfl
      obtain ⟨o, q, qc, qd⟩ := hit
      obtain ⟨o2, m, q2, c2, d2, _⟩ := p
      rw [q] at q2
      obtain rfl := Option.some.inj q2
      exact absurd (Value.type.inj (qc.symm.trans c2)) (by decide)
    have hae : e ≠ a := by
      rintro rfl
      obtain ⟨o2, q2, c2, m, d2⟩ := p.isList
      rw [show s.heap.get? e = _ from he] at q2
      obtain rfl := Option.some.inj q2
      cases d2
    have hlt : i < its.toArray.size := by
      have := (List.getElem?_eq_some_iff.mp hu).1
      simpa using this
    refine wpAny_pyNext_enum_itemC (Draws.list (A := X.A.in1) (I.ok.hd hc) it a hal its.toArray) he ⟨hit, p.isList⟩ hlt hne (by simp [hne, hae]) fun y h' tk hy ho hst hT hsz hk => ?_
    obtain ⟨hit', _⟩ := hst
    obtain rfl : u = y := by
      have h1 : its[i]? = some y := by simpa using hy
      rw [hu] at h1
      exact Option.some.inj h1
    refine ⟨_, rfl, wpAny_letOwnedTupleGo_enum (s := { s with heap := h', toks := tk + 1 }) ho fun h'' he' sb => ?_⟩
    have hT2 : h''.get? s.heap.objs.size = some { cls := .type "tuple", data := .seq #[.int (1 + (i : Int)) tk, u] } := (sb.2 _ (Nat.ne_of_gt hel)).trans hT
    have new : ObjOk X.prog X.w (upd H s.heap.objs.size (.tup [.int (1 + (i : Int)), x])) h'' s.heap.objs.size (.tup [.int (1 + (i : Int)), x]) :=
      ⟨by show 2 ≤ sizeLine; decide, [.int (1 + (i : Int)) tk, u], .cons ⟨_, rfl⟩ (.cons ru .nil), ⟨_, hT2, rfl, _, rfl⟩⟩
    have I1 : Inv X pins σ (upd H s.heap.objs.size (.tup [.int (1 + (i : Int)), x])) { s with heap := h'', toks := tk + 1 } :=
      I.turnedNew (ch := [e, it]) (fun b ob hb q => (sb.2 b (fun z => hb (by simp [z]))).trans (hk b ob (fun z => hb (by simp [z])) (fun z => hb (by simp [z])) q)) hf (Nat.le_refl _) new
    refine ⟨.ref s.heap.objs.size, _, I1, rfl, ⟨_, x, rfl, I.hok.fresh (Nat.le_refl _), rfl, fun ys hy => by rw [I.list_inj hy hq]; exact hx⟩, ⟨⟨u, ?_⟩, hit'.at fun o q => (sb.2 it (Ne.symm hne)).trans q, hne⟩, fun b hb => ?_⟩
    · have e1 : 1 + ((i + 1 : Nat) : Int) = 1 + (i : Int) + 1 := by omega
      rw [e1]; exact he'
    · have hb' : b < s.heap.objs.size := by
        have e' : b = e ∨ b = it := by simpa using hb
        rcases e' with z | z
        · rw [z]; exact hel
        · rw [z]; exact hil
      rw [upd_ne (Nat.ne_of_lt hb')]
      exact (hf b hb).1
  done := by
    intro X hP hw hK hc i pins s σ H E I hf st hg
    subst hP hw hK
    obtain ⟨⟨old, he⟩, hit, hne⟩ := st
    obtain ⟨xs, hq, hx⟩ := hg
    obtain ⟨its, rv, p, hz⟩ := I.list hq
    obtain ⟨f0, f1, f2, f3, f4, f5⟩ := hf it (by simp)
    have hl := rv.length
    exact enum_end1 (I.ok.hd hc) he hit p.isList (by simp; omega) fun h' eb => ⟨rfl, I.turned (t' := s.toks) (fun b o hb q => eb b o hb q) f0 f1 f3 f4 f5⟩
  self := fun A i s Q E st h => let ⟨⟨_, he⟩, _⟩ := st; wpAny_pyIter_enum he h
def iEnum1 (K : PySem.W.Frag) (ta : TA) : TI := fun σ H R => ta σ H fun vs H1 => ∃ a xs, vs = [.ref a] ∧ SqL K H1 a xs ∧ R (Ite1 K a) H1
theorem pi_enum1 {X : Cx} {e : Expr} {ta : TA} {p pos tpos p2 kp : Pos} {elts : List Expr} {kk j : Nat} (hg : Gl X "enumerate") (hm : X.mg "enumerate" = none) (ha : PA X [e] ta)
    (he : backTo pos (starEach [e] X.env) = (false, eval e X.env) :: backTo pos (starEach [] X.env) := by rfl) (hpl : (backTo pos (starEach [e] X.env)).any (·.1) = false := by rfl)
    (hall : (backToKw pos (keywordEach [⟨some "start", .Constant (.int 1) j p2, kp⟩] X.env)).all (·.1.isSome) = true := by rfl) (hnone : (backToKw pos (keywordEach [⟨some "start", .Constant (.int 1) j p2, kp⟩] X.env)).any (·.1.isNone) = false := by rfl)
    (hks : (backToKw pos (keywordEach [⟨some "start", .Constant (.int 1) j p2, kp⟩] X.env)).filterMap (·.1) = (["start"] : List Str) := by rfl) :
    PI X (.Tuple elts kk tpos) (.Call (.Name "enumerate" p) [e] [⟨some "start", .Constant (.int 1) j p2, kp⟩] pos) (iEnum1 X.K ta) := by
  have hk : PK X [⟨some "start", .Constant (.int 1) j p2, kp⟩] (L2.tCons (L2.tC (.int 1)) L2.tNil) := pk_cons pe_int pk_nil
  refine ⟨fun pins s σ H R I h => ?_⟩
  refine wpAny_Call_Name_kw (ld_blt I hg hm boot_enumerate ?_)
  refine callWith_typeKw (thn (ha.run pos pins s σ H _ I h) fun us s1 ⟨vs, H1, I1, r1, q1⟩ => thn (hk.run pos pins s1 σ H1 (fun zs H2 => zs = [.int 1] ∧ H2 = H1) I1 ⟨rfl, rfl⟩) fun ws s2 ⟨zs, H2, I2, r2, q2⟩ => ?_) he hpl hall hnone
  rw [hks]
  obtain ⟨ez, eH⟩ := q2
  subst ez eH
  obtain ⟨a, xs, ex, hq, q⟩ := q1
  subst ex
  cases r1 with
  | cons r rr =>
    cases rr
    cases r
    cases r2 with
    | cons r2 rr2 =>
      cases rr2
      obtain ⟨t, rfl⟩ := r2
      obtain ⟨its, rv, p', hz⟩ := I2.list hq
      show wpAny _ _ (call (.type "enumerate") [.ref a] [(Str.ofString "start", .int 1 t)]) _ _ _
      refine enum_begins_start (begins_list a its.toArray) p'.isList (by decide) (by decide) fun h' he hit hsz hk => wpAny_pyIter_enum he ?_
      have I3 : Inv X pins σ _ { s2 with heap := h' } := I2.kept (t' := s2.toks) hk
      refine ⟨s2.heap.objs.size + 1, [s2.heap.objs.size + 1, s2.heap.objs.size], _, _, _, rfl, I3, turn_enum1 a (s2.heap.objs.size + 1) s2.heap.objs.size, ⟨⟨.none, he⟩, ⟨_, hit, rfl, rfl⟩, Nat.succ_ne_self _⟩, fun b hb => ?_, q⟩
      have e' : b = s2.heap.objs.size + 1 ∨ b = s2.heap.objs.size := by simpa using hb
      have hle : s2.heap.objs.size ≤ b := by
        rcases e' with z | z
        · rw [z]; exact Nat.le_add_right _ _
        · rw [z]; exact Nat.le_refl _
      exact I2.fpOk hle (I2.hok.fresh hle)
end Wd
end
section
set_option Elab.async false
set_option linter.all false
set_option maxRecDepth 100000
set_option maxHeartbeats 1000000
/-! tuple(d) of a dict. -/
namespace Wd
open PySem PySem.Spec PyProof.Rows L2
section
variable {prog : Program} {w : World} {A : Around} {E : Value → Shared → Prop} {s : Shared} {r d : Addr} {n : Nat} {P : Nat → Value → Prop} {OK : Heap → Prop}
theorem collect_kdl {T : String} {Q : List Value → Shared → Prop} (K : PySem.W.KdlSrc prog w T r d n P OK) (hh : A.handled = none) (hok : OK s.heap) (hn : n ≤ sizeLine)
    (hQ : ∀ (h' : Heap) (tk : Nat) (acc : Array Value), (∀ b o, s.heap.get? b = some o → h'.get? b = some o) → ItemsOf P acc n → Q acc.toList { s with heap := h', toks := tk }) :
    wpAny (model prog w) A (collect (.ref r)) Q E s := by
  unfold collect
  refine wpAny_bind (wpAny_runValue (codeAny_builtin F.entry_proto_collect ?_))
  rw [Around.under_plainId F.plain_proto_collect _]
  show wpAny _ A.in1 (newList [] >>= fun l => again (.builtin "list.__iadd__" ⟨[l, .ref r], []⟩)) _ _ s
  refine wpAny_bind (wpAny_newObj_type ?_)
  refine wpAny_pure ⟨plainId_quiet F.plain_list_iadd _, codeAny_builtin F.entry_list_iadd ?_⟩
  rw [Around.under_plainId F.plain_list_iadd _]
  show wpAny _ A.in1 (Builtin.List.listExtendWith (.ref s.heap.objs.size) (.ref r) (.ref s.heap.objs.size)) _ _ _
  have hS : (s.heap.push { cls := .type "list", data := .seq ([] : List Value).toArray }).get? s.heap.objs.size = some { cls := .type "list", data := .seq #[] 0 } := Heap.get?_push_size _ rfl
  have lt := K.there _ hok
  refine wpAny_mono (PySem.W.kdl_extend (A := A) (R := fun rr s' => rr = .ok (.ret (.ref s.heap.objs.size)) ∧ ∃ (h' : Heap) (tk : Nat) (acc : Array Value) (c' : Nat), s' = { s with heap := h', toks := tk } ∧
      (∀ b o, s.heap.get? b = some o → h'.get? b = some o) ∧ h'.get? s.heap.objs.size = some { cls := .type "list", dict := none, data := .seq acc c', slots := #[] } ∧ ItemsOf P acc n)
    (s := { s with heap := s.heap.push { cls := .type "list", data := .seq ([] : List Value).toArray } }) K hh (K.keep _ _ hok fun b _ o q => Heap.get?_push_of_some _ q) _ (Nat.ne_of_gt lt.1) (Nat.ne_of_gt lt.2) _ 0 hS
    (fun h' tk acc c' hk e hi => ⟨rfl, h', tk, acc, c', rfl, fun b o q => hk b o (Nat.ne_of_lt (Heap.lt_size q)) (Heap.get?_push_of_some _ q), e, hi⟩) hn) (fun fin s' h => ?_) (fun e s' h => ?_)
  · cases fin with
    | done f =>
      obtain ⟨e, h', tk, acc, c', rfl, hk, hS', hi⟩ := h
      cases e
      show wpAny _ A (load s.heap.objs.size >>= _) _ _ _
      exact wpAny_bind (wpAny_load hS' (wpAny_pure (hQ h' tk acc hk hi)))
    | again c' =>
      refine ⟨h.1, codeAny_mono h.2 fun rr s'' hr' => ?_⟩
      obtain ⟨rfl, h', tk, acc, c', rfl, hk, hS', hi⟩ := hr'
      show wpAny _ A (load s.heap.objs.size >>= _) _ _ _
      exact wpAny_bind (wpAny_load hS' (wpAny_pure (hQ h' tk acc hk hi)))
  · exact absurd h.1 (by simp)
theorem code_tuple_new_kdl {Q₁ : Value → Shared → Prop} (K : PySem.W.KdlSrc prog w "dict" r d n P OK) (hh : A.handled = none) (hok : OK s.heap) (hn : n ≤ sizeLine)
    (h : ∀ (h' : Heap) (tk : Nat) (acc : Array Value), (∀ b o, s.heap.get? b = some o → h'.get? b = some o) → ItemsOf P acc n →
      Q₁ (.ref h'.objs.size) { s with heap := h'.push { cls := .type "tuple", data := .seq acc }, toks := tk }) :
    codeAny (model prog w) A (.call (.builtin "tuple.__new__") ⟨[.type "tuple", .ref r], []⟩) (wants Q₁ E) s := by
  refine codeAny_of_tree ?_
  show wpAny _ A.in1 (do checkBuiltinCall "tuple.__new__" ⟨[.type "tuple", .ref r], []⟩; again (.builtin "tuple.__new__" ⟨[.type "tuple", .ref r], []⟩)) _ _ s
  refine wpAny_bind (wpAny_of_eq (F.newCall_tuple_1 _) (wpAny_pure ⟨plainId_quiet F.plain_tuple_new _, codeAny_builtin F.entry_tuple_new ?_⟩))
  rw [Around.under_plainId F.plain_tuple_new _]
  have hsub := sub_tuple_self
  have hinit := init_tuple_lookup
  have hmh := madeHere_tuple
  have hTI : s.TypeIs (.ref r) "dict" := K.type s hok
  have hh1 : A.in1.handled = none := hh
  wp_walk using wpAny_typeOf hTI, collect_kdl (A := A.in1) K hh1 hok hn
  intro h' tk acc hk hacc
  show wpAny _ _ (Builtin.Tuple.tupleExact acc.toList.toArray >>= fun v => ret v) _ _ _
  unfold Builtin.Tuple.tupleExact
  refine wpAny_bind (wpAny_newObj_type ?_ (by show acc.toList.toArray.size ≤ sizeLine; simp only [Array.toArray_toList]; rw [hacc.1]; exact hn))
  refine wpAny_pure ?_
  have e : acc.toList.toArray = acc := by simp
  rw [e]
  exact h h' tk acc hk hacc
theorem call_tuple_kdl {Q : Value → Shared → Prop} (K : PySem.W.KdlSrc prog w "dict" r d n P OK) (hh : A.handled = none) (hok : OK s.heap) (hn : n ≤ sizeLine)
    (hQ : ∀ (h' : Heap) (tk : Nat) (acc : Array Value), (∀ b o, s.heap.get? b = some o → h'.get? b = some o) → ItemsOf P acc n →
      Q (.ref h'.objs.size) { s with heap := h'.push { cls := .type "tuple", data := .seq acc }, toks := tk }) :
    wpAny (model prog w) A (call (.type "tuple") [.ref r]) Q E s := by
  refine callType_codes (Q₁ := fun obj s₁ => s₁.TypeIs obj "tuple" ∧ Q obj s₁) F.called_tuple (F.typeCall_tuple_1 _) F.entry_object_init
    (code_tuple_new_kdl (A := A.in1) K hh hok hn fun h' tk acc hk hacc => ⟨⟨_, Heap.get?_push_size _ rfl, rfl⟩, hQ h' tk acc hk hacc⟩) fun obj s₁ h₁ => ?_
  exact ⟨h₁.1, F.args_object_init_2 obj _, object_init_meets F.called_tuple.init.lookup F.called_tuple.made (by decide) prog w A.in1 _ s₁ ⟨h₁.1, rfl, h₁.2⟩⟩
end
section
variable {X : Cx}
/-- tuple(d), keys ints and texts -/
theorem call_tuple_dK (hc : X.calm = true) : CallR X (.type "tuple") (fun xs H Q => ∃ p kvs, xs = [V.ref p] ∧ H p = some (.dK kvs) ∧ ∀ q, H q = none → Q (.ref q) (upd H q (.tup (kvs.map fun kv => kV kv.1)))) := by
  intro pins s σ H xs us Q I r h
  obtain ⟨p, kvs, e, hk, q⟩ := h
  subst e
  obtain ⟨u, eu, rx⟩ := vals1 r
  subst eu
  obtain rfl : u = Value.ref p := rx
  obtain ⟨z, lo, vs, rk, hd⟩ := (show ObjOk X.prog X.w H s.heap p (.dK kvs) from I.hok p _ hk)
  obtain ⟨ep, hat⟩ := hd.dictAt
  have hl : kvs.length = vs.length := Paired.length rk
  refine call_tuple_kdl (PySem.W.kdl_dict (knd := mixKind X.prog X.w) (kvs := vs) (ep := ep) lo) (I.ok.hd hc) hat (by rw [← hl]; exact z) fun h' tk acc' hkeep hacc => ?_
  have I1 : Inv X pins σ H { s with heap := h', toks := tk } := I.kept hkeep
  refine ⟨.ref h'.objs.size, upd H h'.objs.size (.tup (kvs.map fun kv => kV kv.1)), I1.laid (t' := tk) (fun b o e => Heap.get?_push_of_some _ e) (Nat.le_refl _) (show ObjOk X.prog X.w _ _ _ (.tup (kvs.map fun kv => kV kv.1)) from ⟨?_, acc'.toList, ?_, ?_⟩), rfl, q _ (I1.hok.fresh (Nat.le_refl _))⟩
  · rw [List.length_map]; exact z
  · have el : acc'.toList.length = acc'.size := by simp
    refine vals_of_at (by rw [List.length_map, el, hacc.1, hl]) fun j x w h1 h2 => ?_
    obtain ⟨k, y, hky, hi⟩ := hacc.2 j w (by rw [← Array.getElem?_toList]; exact h2)
    have e1 : (kvs.map (·.1))[j]? = some k := by
      rw [KV.keys rk, List.getElem?_map, hky] <;> rfl
    have e2 : (kvs.map fun kv => kV kv.1)[j]? = some (kV k) := by
      have e3 : (kvs.map fun kv => kV kv.1) = (kvs.map (·.1)).map kV := by rw [List.map_map] <;> rfl
      rw [e3, List.getElem?_map, e1] <;> rfl
    rw [e2] at h1
    cases h1
    exact keyIs_rel hi
  · rw [Array.toArray_toList]; exact IsTup.new _ _
/-- tuple(d), keys tuples -/
theorem call_tuple_dT (hc : X.calm = true) : CallR X (.type "tuple") (fun xs H Q => ∃ d kvs, xs = [V.ref d] ∧ Rd H d (.dT kvs) ∧ ∀ p bs, H p = none → IsKeys H kvs bs → Q (.ref p) (upd H p (.tup (bs.map V.ref)))) := by
  intro pins s σ H xs us Q I r h
  obtain ⟨d, kvs, rfl, hd, q⟩ := h
  obtain ⟨u, rfl, rx⟩ := r.one
  cases rx
  obtain ⟨z, hs, ks, pr, o, es, ep, ho, hx, hdt, he, hn⟩ := (show ObjOk X.prog X.w H s.heap d (.dT kvs) from hd.ok I.hok)
  have l1 : es.size = ks.length := size_of_entries he
  have l2 : kvs.length = ks.length := Paired.length pr
  refine call_tuple_kdl (kdl_raw hs hx hdt) (I.ok.hd hc) ho (by omega) fun h' tk acc' kp it => ?_
  have I1 : Inv X pins σ H { s with heap := h', toks := tk } := I.kept kp
  have ea : acc'.toList = ks.map fun x => Value.ref x.2.1 := by
    have hl : acc'.toList.length = ks.length := by rw [Array.length_toList, it.1]; exact l1
    apply List.ext_getElem?
    intro j
    rw [List.getElem?_map]
    cases hj : acc'.toList[j]? with
    | none =>
      have h1 := List.getElem?_eq_none_iff.mp hj
      rw [List.getElem?_eq_none (by omega)]
      all_goals rfl
    | some v =>
      obtain ⟨en, hen, hv⟩ := it.2 j v (by rw [← Array.getElem?_toList]; exact hj)
      have qe := entry_at he j
      rw [hen] at qe
      cases hb : ks[j]? with
      | none =>
        rw [hb] at qe
        exact nomatch (show some en = none from qe)
      | some b =>
        rw [hb] at qe
        have e2 : en = entryOfKey (tupleKind (mixKind X.prog X.w)) b := Option.some.inj qe
        rw [hv, e2]
        all_goals rfl
  have eb : acc'.toList = (ks.map fun x => x.2.1).map Value.ref := by rw [ea, List.map_map]; all_goals rfl
  have rv : Vals ((ks.map fun x => x.2.1).map V.ref) acc'.toList := by rw [eb]; exact vals_refs _
  have hz : ((ks.map fun x => x.2.1).map V.ref).length ≤ sizeLine := by rw [List.length_map, List.length_map]; omega
  refine ⟨.ref h'.objs.size, _, I1.laid (t' := tk) (o := .tup ((ks.map fun x => x.2.1).map V.ref)) (fun b o e => Heap.get?_push_of_some _ e) (Nat.le_refl _) ?_, rfl, q _ _ (I1.hok.fresh (Nat.le_refl _)) (isKeys_of pr)⟩
  exact ⟨hz, acc'.toList, rv, by rw [Array.toArray_toList]; exact IsTup.new _ _⟩
end
end Wd
end
section
set_option Elab.async false
set_option linter.all false
set_option maxRecDepth 100000
set_option maxHeartbeats 1000000
/-! The truth of a dict with tuple keys; a star in targets; a chain of three comparisons. -/
namespace Wd
open PySem PySem.Spec PyProof.Rows L2
section
variable {prog : Program} {w : World} {A : Around} {E : Value → Shared → Prop} {s : Shared}
theorem truthy_dictH {K : Type} [DecidableEq K] {knd : HeapKind prog w K} {d : Addr} {kvs : List (K × Addr × Value)} {Q : Bool → Shared → Prop} (hd : (d == sysModules) = false) (hm : s.heap.DictOfH knd d kvs) (hfit : (kvs.length : Int) < 2 ^ 63)
    (h : Q (!kvs.isEmpty) { s with toks := s.toks + 1 + 1 }) : wpAny (model prog w) A (truthy (.ref d)) Q E s := by
  have hne : ((kvs.length : Int) != 0) = !kvs.isEmpty := by cases kvs <;> simp <;> omega
  have key : wpAny (model prog w) A (runValue (.builtin "len" ⟨[.ref d], []⟩)) (fun r s' => r = .int kvs.length (s.toks + 1) ∧ Q (!kvs.isEmpty) s') E s := by
    refine wpAny_runValue (codeAny_builtin entry_len ?_)
    rw [Around.under_plainId plain_len _]
    exact wpAny_mono (wpAny_len_body_dictH (Q := fun r s' => r = .int kvs.length (s.toks + 1) ∧ Q (!kvs.isEmpty) s') hd hm hfit ⟨rfl, h⟩)
      (fun fin s' h' => by obtain ⟨r, rfl, hq⟩ := h'; exact hq) fun _ _ e => e
  unfold truthy
  first
    | refine wpAny_bind (wpAny_callSpecial?_none (name := Str.ofString "__bool__") hm.typeIs noBool_dict ?_)
    | refine wpAny_bind (wpAny_pure (wpAny_bind (wpAny_callSpecial?_none (name := Str.ofString "__bool__") hm.typeIs noBool_dict ?_)))
  first
    | refine wpAny_bind (wpAny_specialOf (name := Str.ofString "__len__") hm.typeIs F.slot_dict_len.lookup ?_)
    | refine wpAny_bind (wpAny_pure (wpAny_bind (wpAny_specialOf (name := Str.ofString "__len__") hm.typeIs F.slot_dict_len.lookup ?_)))
  first
    | exact wpAny_bind (wpAny_mono key (fun r s' h' => by obtain ⟨rfl, hq⟩ := h'; exact wpAny_pure (hne ▸ hq)) fun _ _ e => e)
    | exact wpAny_bind (wpAny_pure (wpAny_bind (wpAny_mono key (fun r s' h' => by obtain ⟨rfl, hq⟩ := h'; exact wpAny_pure (hne ▸ hq)) fun _ _ e => e)))
theorem walks_shift {I : Addr} {fp wr : List Addr} {n k : Nat} {P : Nat → Value → Prop} {St : Nat → Heap → Prop} (W : Walks prog w A I fp wr (k + n) P St) : Walks prog w A I fp wr n (fun i => P (k + i)) (fun i => St (k + i)) where
  sub := W.sub
  frame := fun i h h' st hk => W.frame (k + i) h h' st hk
  item := fun i s Q E hi st hQ => W.item (k + i) s Q E (by omega) st hQ
  done := fun s Q E st hQ => W.done s Q E st hQ
  self := fun i s Q E st hQ => W.self (k + i) s Q E st hQ
end
section
variable {X : Cx} {pos : Pos}
theorem tru_dT : TruR X (fun x H Q => ∃ a kvs, x = .ref a ∧ H a = some (.dT kvs) ∧ Q (!kvs.isEmpty) H) := by
  intro pins s σ H x v Q I rx h
  obtain ⟨a, kvs, rfl, hp, q⟩ := h
  obtain rfl : v = .ref a := rx
  obtain ⟨z, hd, ys, rel, dd⟩ := dt_of I.hok hp
  have hl : kvs.length = ys.length := Paired.length rel
  refine truthy_dictH hd dd (by rw [← hl]; rw [sizeLine_eq] at z; omega) ?_
  have e : (!ys.isEmpty) = !kvs.isEmpty := by cases rel <;> rfl
  rw [e]
  exact ⟨H, I.tok _, q⟩
/-- x, *y = a list -/
def gStar (K : PySem.W.Frag) (t : TGs) : TG := fun v σ H Q => ∃ a x xs, v = .ref a ∧ SqL K H a (x :: xs) ∧ ∀ p, H p = none → t [x, .ref p] σ (upd H p (.lst xs)) Q
theorem pg_star {es : List Expr} {k : Nat} {t : TGs} (hc : X.calm = true) (h : PGs X es t)
    (hn : (assignEach es X.env).length = 2 := by rfl) (hst : (assignEach es X.env).findIdx? (·.1) = some 1 := by rfl) : PG X (.Tuple es k pos) (gStar X.K t) := by
  refine ⟨fun pins s σ H v u Q I r hw => ?_⟩
  obtain ⟨a, x, xs, e1, hq, hw⟩ := hw
  subst e1
  cases r
  obtain ⟨its, rv, pl, hz⟩ := I.list hq
  cases rv with
  | @cons _ y _ ys rx rxs =>
  have hl' : s.heap.IsList a (y :: ys).toArray := by
    obtain ⟨o, m, e, c, d, q⟩ := pl
    exact ⟨o, e, c, m, q⟩
  have hlt : a ≠ s.heap.objs.size := by obtain ⟨o, ho, _⟩ := hl'; exact Nat.ne_of_lt (Heap.lt_size ho)
  have hh := I.ok.hd hc
  rw [PyProof.Rows.assign_Tuple]
  refine wpAny_bind (wpAny_standAt ?_)
  unfold unpack
  rw [hn, hst]
  unfold unpackItems
  refine wpAny_bind (wpAny_holding (wpAny_bind ?_))
  unfold notIterableAtAll
  refine wpAny_bind (wpAny_specialOf hl'.typeIs PySem.F.slot_list_iter.lookup ?_)
  refine wpAny_pure ?_
  simp only [Bool.false_eq_true, if_false]
  refine wpAny_bind (wpAny_holding (wpAny_pyIter_list hl' ?_))
  refine wpAny_bind (wpAny_holding (PySem.W.kun_draw hlt 1 0 _ _ ⟨_, Heap.get?_push_size _ rfl, rfl, rfl⟩ (hl'.push _) (by simp) fun h₁ hit₁ hs₁ => ?_))
  have e1 : ((y :: ys).toArray.toList.drop 0).take 1 = [y] := by simp
  rw [e1]
  rw [if_neg (by simp)]
  have hl₁ : h₁.IsList a (y :: ys).toArray := (hl'.push _).extBut hs₁.extBut hlt
  have hsz1 : h₁.objs.size = s.heap.objs.size + 1 := by rw [hs₁.1, Heap.size_push]
  have W := walks_shift (k := 1) (n := ys.length) (by
    have w0 := Walks.list (prog := X.prog) (w := X.w) (A := X.A.in1) hh s.heap.objs.size a hlt (y :: ys).toArray
    have en : (y :: ys).toArray.size = 1 + ys.length := by simp; omega
    rw [en] at w0
    exact w0)
  refine wpAny_bind (wpAny_holding (wpAny_collect_iter (s := { s with heap := h₁ }) (.inr (.inr (.inl rfl))) W.toS (fun i s' st => ?_) ⟨hit₁, hl₁⟩ (fun b hb => ?_) (by simp) (fun s' acc mv it => ?_) (by rw [sizeLine_eq] at hz ⊢; have := rxs.length; simp at hz; omega)))
  · obtain ⟨o, ho, hc', _⟩ := st.1
    exact ⟨o, ho, hc'⟩
  · show b < h₁.objs.size
    rw [hsz1]
    have ha : a < s.heap.objs.size := by obtain ⟨o, ho, _⟩ := hl'; exact Heap.lt_size ho
    have e' : b = s.heap.objs.size ∨ b = a := by simpa using hb
    rcases e' with z | z
    · rw [z]; exact Nat.lt_succ_self _
    · rw [z]; exact Nat.lt_succ_of_lt ha
  · have ea : acc.toList = ys := by
      have hlen : acc.toList.length = ys.length := by rw [Array.length_toList]; exact it.1
      apply List.ext_getElem?
      intro j
      cases hj : acc.toList[j]? with
      | none =>
        have h1 := List.getElem?_eq_none_iff.mp hj
        rw [List.getElem?_eq_none (by omega)]
      | some v =>
        have this : (y :: ys).toArray[1 + j]? = some v := it.2 j v (by rw [← Array.getElem?_toList]; exact hj)
        rw [show (1 + j) = j + 1 by omega] at this
        simpa using this.symm
    rw [ea]
    rw [if_neg (by simp)]
    have e2 : ys.take (ys.length - (2 - 1 - 1)) = ys := by simp
    have e3 : ys.drop (ys.length - (2 - 1 - 1)) = [] := by simp
    rw [e2, e3]
    obtain ⟨mh, mg, md, mo, mt⟩ := mv
    have kp : ∀ b o, s.heap.get? b = some o → s'.heap.get? b = some o := fun b o e => by
      have hb : b ≠ s.heap.objs.size := Nat.ne_of_lt (Heap.lt_size e)
      exact mh b o (by simpa using hb) (hs₁.extBut b o hb (Heap.get?_push_of_some _ e))
    obtain ⟨hp', g', d', tk', os'⟩ := s'
    dsimp only at mg md mo kp
    subst mg md mo
    have I1 : Inv X pins σ H ⟨hp', s.gens, s.drawn, tk', s.os⟩ := I.kept (t' := tk') (h' := hp') kp
    have zl : ys.length ≤ sizeLine := by rw [sizeLine_eq] at hz ⊢; have := rxs.length; simp at hz; omega
    refine wpAny_bind (wpAny_newList ?_ zl)
    refine wpAny_pure ?_
    have zx : xs.length ≤ sizeLine := by have := rxs.length; omega
    have I2 : Inv X pins σ (upd H hp'.objs.size (.lst xs)) ⟨hp'.push { cls := .type "list", data := .seq ys.toArray }, s.gens, s.drawn, tk', s.os⟩ :=
      I1.laid (t' := tk') (fun b o e => Heap.get?_push_of_some _ e) (Nat.le_refl _) (show ObjOk X.prog X.w _ _ _ (.lst xs) from ⟨zx, ys, 0, rxs, Heap.get?_push_size _ rfl⟩)
    exact h.run pins _ σ _ [x, .ref hp'.objs.size] [y, .ref hp'.objs.size] Q I2 (.cons rx (.cons rfl .nil)) (hw _ (I1.hok.fresh (Nat.le_refl _)))
theorem pgs_starred {e : Expr} {es : List Expr} {t : TG} {u : TGs} {p : Pos} (h1 : PG X e t) (h2 : PGs X es u) : PGs X (.Starred e p :: es) (gCons t u) := by
  refine ⟨fun pins s σ H vs us Q I r h => ?_⟩
  obtain ⟨v, vr, e1, h⟩ := h
  subst e1
  cases r with
  | cons r rr =>
    rw [PySem.arm_assignEach_Starred, List.map_cons]
    refine PyProof.Rows.assignInOrder_cons (thn (h1.run pins s σ H _ _ _ I r h) fun _ s1 ⟨σ1, H1, I1, q1⟩ => ?_)
    exact h2.run pins s1 σ1 H1 _ _ Q I1 rr q1
/-- a op1 b op2 c op3 d -/
def tChain3 (r r' r'' : R2) (ta tb tc td : TE) : TE := fun σ H Q => ta σ H fun x H1 => tb σ H1 fun y H2 => r x y H2 fun z H3 => ∃ k, z = .bl k ∧
  (if k = true then tc σ H3 fun w' H4 => r' y w' H4 fun z' H5 => ∃ k', z' = .bl k' ∧ (if k' = true then td σ H5 fun v' H6 => r'' w' v' H6 Q else Q (.bl false) H5) else Q (.bl false) H3)
theorem pe_chain3 {op op' op'' : CmpOp} {r r' r'' : R2} {a b c d : Expr} {ta tb tc td : TE} (ho : OpR X (compareOp op) r) (ho' : OpR X (compareOp op') r') (ho'' : OpR X (compareOp op'') r'') (ha : PE X a ta) (hb : PE X b tb) (hc : PE X c tc) (hd : PE X d td)
    (hm : lastMarks [op, op', op''] [b, c, d] = false := by with_unfolding_all rfl) : PE X (.Compare a [op, op', op''] [b, c, d] pos) (tChain3 r r' r'' ta tb tc td) := by
  refine ⟨fun pins s σ H Q I h => ?_⟩
  refine Compare_chain (thn (ha.run pins s σ H _ I h) fun v s1 ⟨x, H1, I1, r1, q1⟩ => chain_link (thn (hb.run pins s1 σ H1 _ I1 q1) fun u s2 ⟨y, H2, I2, r2, q2⟩ =>
    thn (ho pins s2 σ H2 x y v u _ I2 r1 r2 q2) fun d s3 ⟨z, H3, I3, r3, k, e, q3⟩ => ?_)) hm
  subst e
  cases r3
  refine wpAny_truthy_bool ?_
  cases k with
  | false => exact ite_ff ⟨.bl false, H3, I3, rfl, q3⟩
  | true =>
    refine ite_tt (chain_link (thn (hc.run pins s3 σ H3 _ I3 q3) fun w' s4 ⟨z', H4, I4, r4, q4⟩ => thn (ho' pins s4 σ H4 y z' u w' _ I4 r2 r4 q4) fun d' s5 ⟨z5, H5, I5, r5, k', e', q5⟩ => ?_))
    subst e'
    cases r5
    refine wpAny_truthy_bool ?_
    cases k' with
    | false => exact ite_ff ⟨.bl false, H5, I5, rfl, q5⟩
    | true => exact ite_tt (chain_last (thn (hd.run pins s5 σ H5 _ I5 q5) fun v' s6 ⟨z6, H6, I6, r6, q6⟩ => ho'' pins s6 σ H6 z' z6 w' v' Q I6 r4 r6 q6))
end
end Wd
end
section
set_option Elab.async false
set_option linter.all false
set_option maxRecDepth 100000
set_option maxHeartbeats 0
namespace Wd
open PySem PySem.Spec PyProof.Rows L2
/-! ### the text -/
def top (i : Nat) : Stmt := PySem.Challenge.pw_whoseday_k23_whole_sets_of_days.main.body.getD i (.Pass ⟨0, 0, 0, 0⟩)
abbrev i__wall : Nat := 1
abbrev i_turned : Nat := 4
abbrev i_next_up : Nat := 5
abbrev i_next_down : Nat := 6
abbrev i_all_sums : Nat := 7
abbrev i__plain_sum : Nat := 8
abbrev i__upward_sums : Nat := 9
abbrev i__least_sums : Nat := 10
abbrev i_is_integer : Nat := 15
abbrev i__is_piece : Nat := 19
abbrev i__starts : Nat := 20
abbrev i__law_pieces : Nat := 22
abbrev i__law_in_piece : Nat := 23
abbrev i__law_in_pieces : Nat := 24
abbrev i__law_pen : Nat := 25
abbrev i__law_draw : Nat := 26
abbrev i__law_pick : Nat := 27
abbrev i__law_members : Nat := 28
abbrev i__law_ends : Nat := 29
abbrev i__law_set_right : Nat := 30
abbrev i__law_handed : Nat := 31
abbrev i__law_wide_right : Nat := 32
abbrev i_law : Nat := 33
abbrev i_WhosedayError : Nat := 12
abbrev i_BadPiece : Nat := 13
abbrev j_BadPiece___init__ : Nat := 0
abbrev i_Days : Nat := 18
abbrev j_Days___init__ : Nat := 0
abbrev j_Days___contains__ : Nat := 1
abbrev j_Days___add__ : Nat := 2
abbrev j_Days___or__ : Nat := 3
abbrev j_Days_least : Nat := 4
abbrev j_Days_greatest : Nat := 5
abbrev j_Days_goes_down : Nat := 6
abbrev j_Days_goes_up : Nat := 7
abbrev j_Days_next_from : Nat := 8
abbrev j_Days_next_to : Nat := 9
abbrev j_Days_moved : Nat := 10
abbrev j_Days_same : Nat := 11
abbrev j_Days__steps_on : Nat := 12
/-- the getter of a class's property -/
def gtA (K : PySem.W.Frag) (p : Str × Option Str) : Addr := match p.2 with
  | some m => (match PySem.W.recIn K (He.ma K (He.ga K p.1) m) "property" with
    | some (.ref g :: _) => g
    | _ => (match PySem.W.recIn K (He.ma K (He.ga K p.1) m) "staticmethod" with
      | some (.ref g :: _) => g
      | _ => 0))
  | none => 0
def recB (K : PySem.W.Frag) (p g : Addr) : Bool := match PySem.W.recIn K p "property" with
  | some (.ref a :: _) => decide (a = g)
  | _ => false
theorem recB_ok {K : PySem.W.Frag} {p g : Addr} (h : recB K p g = true) : ∃ rest, PySem.W.recIn K p "property" = some (.ref g :: rest) := by
  unfold recB at h
  split at h
  · rename_i a r e
    obtain rfl := of_decide_eq_true h
    exact ⟨_, e⟩
  · cases h
def recS (K : PySem.W.Frag) (p g : Addr) : Bool := match PySem.W.recIn K p "staticmethod" with
  | some (.ref a :: _) => decide (a = g)
  | _ => false
theorem recS_ok {K : PySem.W.Frag} {p g : Addr} (h : recS K p g = true) : ∃ rest, PySem.W.recIn K p "staticmethod" = some (.ref g :: rest) := by
  unfold recS at h
  split at h
  · rename_i a r e
    obtain rfl := of_decide_eq_true h
    exact ⟨_, e⟩
  · cases h
def gtW (K : PySem.W.Frag) (d : He.DefD) : He.FnW := match K.lookup (gtA K d.at_) with
  | some ⟨_, _, .func fd, _⟩ => some (fd.name, fd.qualname, fd.params, fd.body, fd.scope, fd.globals, fd.closure, fd.builtins)
  | _ => none
def gtOk (K : PySem.W.Frag) (d : He.DefD) : Bool := PySem.W.keepIn K (.ref (gtA K d.at_)) && (match K.lookup (gtA K d.at_) with
  | some ⟨_, _, .func fd, _⟩ => PySem.W.codeIn K fd.code d.qual && (He.dflB K fd.defaults (d.dvs K) && He.kwdB K fd.kwdefaults (d.kws K))
  | _ => false)
theorem gt_funD {K : PySem.W.Frag} {d : He.DefD} (e : gtW K d = d.val) (c : gtOk K d = true) : ∃ fd, FunD K d.name d.qual d.params d.body d.scope (d.dvs K) (d.kws K) (gtA K d.at_) fd := by
  obtain ⟨kp, c2⟩ := He.ba c
  unfold gtW at e
  split at e
  · rename_i oc od fd osl q
    rw [q] at c2
    obtain ⟨n1, n2, n3, n4, n5, n6, n7, n8, n9, n10, n11, n12, n13, n14, n15⟩ := fd
    have e2 : (some (n1, n2, n3, n4, n5, n6, n7, n15) : He.FnW) = some (d.name, d.qual, d.params, .stmts d.body, d.scope, mainGlobals, [], builtinsNs) := e
    simp only [Option.some.injEq, Prod.mk.injEq] at e2
    obtain ⟨h1, h2, h3, h4, h5, h6, h7, h8⟩ := e2
    subst h1 h2 h3 h4 h5 h6 h7 h8
    have c3 : (PySem.W.codeIn K n13 d.qual && (He.dflB K n8 (d.dvs K) && He.kwdB K n9 (d.kws K))) = true := c2
    obtain ⟨k1, k2⟩ := He.ba c3
    obtain ⟨k3, k4⟩ := He.ba k2
    exact ⟨_, ⟨oc, od, n8, n9, n10, n11, n12, n13, n14, osl, rfl, q, k1, He.dflB_ok k3, He.kwdB_ok k4⟩, kp⟩
  · cases e
/-- the getters -/
def gsU : List He.DefD := [⟨("Days", some "goes_down"), "goes_down", "Days.goes_down", defArgs (inClass (top i_Days) j_Days_goes_down), defBody (inClass (top i_Days) j_Days_goes_down), defScope (inClass (top i_Days) j_Days_goes_down), [], []⟩, ⟨("Days", some "goes_up"), "goes_up", "Days.goes_up", defArgs (inClass (top i_Days) j_Days_goes_up), defBody (inClass (top i_Days) j_Days_goes_up), defScope (inClass (top i_Days) j_Days_goes_up), [], []⟩, ⟨("Days", some "least"), "least", "Days.least", defArgs (inClass (top i_Days) j_Days_least), defBody (inClass (top i_Days) j_Days_least), defScope (inClass (top i_Days) j_Days_least), [], []⟩, ⟨("Days", some "greatest"), "greatest", "Days.greatest", defArgs (inClass (top i_Days) j_Days_greatest), defBody (inClass (top i_Days) j_Days_greatest), defScope (inClass (top i_Days) j_Days_greatest), [], []⟩]
def valU (fn : List He.DefD) (ts : List He.Tab) (w : World) : He.AlT := ((true, fn.map He.DefD.val ++ gsU.map He.DefD.val), ts.map fun t => some (He.keysIn w.params t.2))
def obsU (q : PySem.W.Frag → Bool) (fn : List He.DefD) (ts : List He.Tab) (K : PySem.W.Frag) : He.AlT :=
  ((q K && fn.all (He.DefD.ok K), (fn.map fun d => He.fnW K d.at_) ++ gsU.map (gtW K)), ts.map fun t => He.dicW K (t.1 K))
def SaysU (q : PySem.W.Frag → Bool) (fn : List He.DefD) (ts : List He.Tab) (w : World) (K : PySem.W.Frag) : Prop := obsU q fn ts K = valU fn ts w
def seeU (as : List Addr) (q : PySem.W.Frag → Bool) (fn : List He.DefD) (ts : List He.Tab) (g : Addr → Option Obj) : He.AlT := obsU q fn ts (He.frG g as)
def hookU (as : List Addr) (q : PySem.W.Frag → Bool) (fn : List He.DefD) (ts : List He.Tab) : PySem.W.Hook where
  α := He.AlT
  obs := fun s => seeU as q fn ts s.heap.get?
  val := fun w => valU fn ts w
  says := fun w h => ∃ K : PySem.W.Frag, K.In h ∧ SaysU q fn ts w K
  of := fun _ s z => ⟨He.frG s.heap.get? as, He.frG_in, z⟩
  keeps := fun _ _ _ ⟨K, hin, z⟩ kp => ⟨K, hin.keeps kp, z⟩
theorem seeU_eq {as : List Addr} {q : PySem.W.Frag → Bool} {fn : List He.DefD} {ts : List He.Tab} {g : Addr → Option Obj} {s : Shared} (h : ∀ a, g a = s.heap.get? a) :
    seeU as q fn ts g = (hookU as q fn ts).obs s := by
  rw [show g = s.heap.get? from funext h] <;> rfl
section
variable {q : PySem.W.Frag → Bool} {fn : List He.DefD} {ts : List He.Tab} {w : World} {K : PySem.W.Frag}
theorem SaysU.test (c : SaysU q fn ts w K) : q K = true :=
  (He.ba (show (q K && fn.all (He.DefD.ok K)) = true from congrArg (fun z : He.AlT => z.1.1) c)).1
theorem SaysU.def_ (c : SaysU q fn ts w K) (i : Nat) {d : He.DefD} (h : fn[i]? = some d := by rfl) :
    ∃ fd, FunD K d.name d.qual d.params d.body d.scope (d.dvs K) (d.kws K) (He.fAd K d.at_) fd := by
  have all := (He.ba (show (q K && fn.all (He.DefD.ok K)) = true from congrArg (fun z : He.AlT => z.1.1) c)).2
  have e : fn.map (fun d => He.fnW K d.at_) = fn.map He.DefD.val := (List.append_inj (congrArg (fun z : He.AlT => z.1.2) c) (by simp)).1
  have e2 : (fn.map fun d => He.fnW K d.at_)[i]? = (fn.map He.DefD.val)[i]? := by rw [e]
  simp only [List.getElem?_map, h, Option.map_some] at e2
  exact He.DefD.funD (Option.some.inj e2) (List.all_eq_true.mp all d (List.mem_of_getElem? h))
theorem SaysU.get_ (c : SaysU q fn ts w K) (i : Nat) {d : He.DefD} (h : gsU[i]? = some d) (ok : gtOk K d = true) :
    ∃ fd, FunD K d.name d.qual d.params d.body d.scope (d.dvs K) (d.kws K) (gtA K d.at_) fd := by
  have e : gsU.map (gtW K) = gsU.map He.DefD.val := (List.append_inj (congrArg (fun z : He.AlT => z.1.2) c) (by simp)).2
  have e2 : (gsU.map (gtW K))[i]? = (gsU.map He.DefD.val)[i]? := by rw [e]
  simp only [List.getElem?_map, h, Option.map_some] at e2
  exact gt_funD (Option.some.inj e2) ok
theorem SaysU.tab (c : SaysU q fn ts w K) (i : Nat) {t : He.Tab} (h : ts[i]? = some t := by rfl) : ∃ es n, KDict K w (t.1 K) es n := by
  have e : ts.map (fun t => He.dicW K (t.1 K)) = ts.map fun t => some (He.keysIn w.params t.2) := congrArg (fun z : He.AlT => z.2) c
  have e2 : (ts.map fun t => He.dicW K (t.1 K))[i]? = (ts.map fun t => some (He.keysIn w.params t.2))[i]? := by rw [e]
  rw [List.getElem?_map, List.getElem?_map, h] at e2
  exact He.dicW_ok (Option.some.inj e2)
end
/-- under a key of a dict of the top: a tuple of these -/
def dtup (K : PySem.W.Frag) (x k : Str) : Addr := match PySem.W.nsIn K (He.ga K x) k with
  | some (some (.ref t)) => t
  | _ => 0
def dtupB (K : PySem.W.Frag) (x k : Str) (vs : List He.Dv) : Bool := He.eqO (PySem.W.nsIn K (He.ga K x) k) (some (some (.ref (dtup K x k)))) && (match K.lookup (dtup K x k) with
  | some ⟨.type c, _, .seq its _, _⟩ => decide (c = "tuple") && (decide (its.size ≤ sizeLine) && He.relAll (vs.map (He.Dv.v K)) its.toList)
  | _ => false)
end Wd
end
section
set_option Elab.async false
set_option linter.all false
set_option maxRecDepth 100000
set_option maxHeartbeats 4000000
/-! ### what the class of an error says, told by a test -/
namespace Wd
open PySem PySem.Spec PyProof.Rows L2
def errB (K : PySem.W.Frag) (C : Addr) : Bool :=
  (PySem.W.clsIn K C).isSome && (He.eqO (PySem.W.findIn K (.ref C) "__getattribute__") (some (some (.builtin "BaseException.__getattribute__"))) &&
  (He.eqO (PySem.W.findIn K (.ref C) "__getattr__") (some none) && (decide (PySem.W.subIn K (.ref C) (.type "BaseException") = some true) &&
  (PySem.W.hasDictIn K C && (He.eqO (PySem.W.findIn K (.ref C) "__class__") (some (some (.builtin "object.__class__"))) && decide (PySem.W.mroIn K C (.type "object") = some true))))))
def oexB (K : PySem.W.Frag) (C : Addr) : Bool :=
  (match K.lookup C with
    | some ⟨.type "type", _, .cls cd, sl⟩ => (match cd.mro, sl.toList with
      | .ref C' :: bm, [_, _, _, _, some (.builtin n), _] => C' == C && (n == "ValueError.__new__" && (!cd.hasDel && (cd.hasDict && PySem.HandSPX.refsVE bm)))
      | _, _ => false)
    | _ => false) && (He.eqO (PySem.W.findIn K (.ref C) "__setattr__") (some (some (.builtin "object.__setattr__"))) &&
  (decide (PySem.W.typeIn K (.ref C) = some (.type "type")) && PySem.W.keepIn K (.ref C)))
def iniB (K : PySem.W.Frag) (x f : Str) : Bool :=
  oexB K (He.ga K x) && (He.eqO (PySem.W.findIn K (.ref (He.ga K x)) f) (some none) &&
  (He.eqO (PySem.W.findIn K (.ref (He.ga K x)) "__init__") (some (some (.ref (He.ma K (He.ga K x) "__init__")))) &&
  decide (PySem.W.typeIn K (.ref (He.ma K (He.ga K x) "__init__")) = some (.type "function"))))
def clsB (K : PySem.W.Frag) : Bool := He.eqO (PySem.W.specialIn K (.builtin "object.__class__") "__get__") (some (some (.builtin "getset_descriptor.__get__"))) && decide (PySem.W.takesIn K (.builtin "object.__class__") = some true)
theorem errC_of {K : PySem.W.Frag} {C : Addr} (h : errB K C = true) (c : clsB K = true) : ErrC K C := by
  obtain ⟨h1, h⟩ := He.ba h
  obtain ⟨h2, h⟩ := He.ba h
  obtain ⟨h3, h⟩ := He.ba h
  obtain ⟨h4, h⟩ := He.ba h
  obtain ⟨h5, h⟩ := He.ba h
  obtain ⟨h6, h7⟩ := He.ba h
  obtain ⟨c1, c2⟩ := He.ba c
  exact ⟨h1, He.eqO_ok h2, He.eqO_ok h3, of_decide_eq_true h4, h5, He.eqO_ok h6, He.eqO_ok c1, of_decide_eq_true c2, of_decide_eq_true h7⟩
theorem oexC_of {K : PySem.W.Frag} {C : Addr} (be : PySem.W.subIn K (.ref C) (.type "BaseException") = some true) (h : oexB K C = true) : OexC K C := by
  obtain ⟨h0, h⟩ := He.ba h
  obtain ⟨h1, h⟩ := He.ba h
  obtain ⟨h2, h3⟩ := He.ba h
  refine ⟨?_, He.eqO_ok h1, be, of_decide_eq_true h2, h3⟩
  split at h0
  · rename_i dd cd sl ho
    split at h0
    · rename_i C' bm k0 k1 k2 k3 n k5 hm hs
      simp only [Bool.and_eq_true, beq_iff_eq, Bool.not_eq_true'] at h0
      obtain ⟨rfl, rfl, hdel, hdict, htail⟩ := h0
      obtain ⟨nm, bs, mro, ns, qn, hd, sn, sub, ab, col, del⟩ := cd
      dsimp only at hm hdel hdict
      subst hm hdel hdict
      have hsl : sl = #[k0, k1, k2, k3, some (.builtin "ValueError.__new__"), k5] := by
        obtain ⟨l⟩ := sl
        simp only at hs
        rw [hs]
      subst hsl
      exact ⟨nm, qn, ns, bs, bm, sn, sub, ab, col, dd, k0, k1, k2, k3, k5, ho, htail⟩
    · cases h0
  · cases h0
theorem iniB_ok {K : PySem.W.Frag} {x f : Str} (h : iniB K x f = true) : oexB K (He.ga K x) = true ∧ PySem.W.findIn K (.ref (He.ga K x)) f = some none ∧
    PySem.W.findIn K (.ref (He.ga K x)) "__init__" = some (some (.ref (He.ma K (He.ga K x) "__init__"))) ∧ PySem.W.typeIn K (.ref (He.ma K (He.ga K x) "__init__")) = some (.type "function") := by
  obtain ⟨h1, h2⟩ := He.ba h
  obtain ⟨h3, h4⟩ := He.ba h2
  obtain ⟨h5, h6⟩ := He.ba h4
  exact ⟨h1, He.eqO_ok h3, He.eqO_ok h5, of_decide_eq_true h6⟩
end Wd
end
section
set_option Elab.async false
set_option linter.all false
set_option maxRecDepth 100000
set_option maxHeartbeats 1000000
/-! what the dict MEMBERS of the top holds -/
namespace Wd
open PySem PySem.Spec PyProof.Rows L2
def memR (e : DictEntry) : Option (Str × Int) := match e.key, e.val with
  | .str x _, .int n _ => some (x, n)
  | _, _ => none
def memL : List (Str × Int) := [("one", 2), ("up", 3), ("down", 3), ("every", 3)]
def memB (K : PySem.W.Frag) : Bool := match K.lookup (He.ga K "MEMBERS") with
  | some ⟨_, _, .dict es _, _⟩ => decide (es.toList.map memR = memL.map some)
  | _ => false
theorem mem_find : ∀ {l : List DictEntry} {ks : List (Str × Int)}, l.map memR = ks.map some → ∀ z, l.any (·.refKey) = false ∧ RelO ((ks.find? (fun k => decide (k.1 = z))).map fun k => V.int k.2) ((l.find? (·.key.isStr z)).map (·.val))
  | [], [], _, z => ⟨rfl, trivial⟩
  | [], k :: ks, h, z => by cases h
  | e :: l, [], h, z => by cases h
  | e :: l, k :: ks, h, z => by
    have h : memR e :: l.map memR = some k :: ks.map some := h
    injection h with h1 h2
    obtain ⟨i1, i2⟩ := mem_find h2 z
    obtain ⟨hs, ky, vl⟩ := e
    unfold memR at h1
    split at h1
    · rename_i x t n t' e1 e2
      simp only at e1 e2
      subst e1 e2
      cases h1
      refine ⟨?_, ?_⟩
      · rw [List.any_cons, i1]
        rfl
      · rw [List.find?_cons, List.find?_cons]
        have es : (Value.str x t).isStr z = decide (x = z) := by
          show (x == z) = decide (x = z)
          by_cases h : x = z
          · subst h
            rw [decide_eq_true rfl]
            exact beq_self_eq_true x
          · rw [decide_eq_false h]
            exact beq_eq_false_iff_ne.mpr h
        show RelO (Option.map _ (match decide (x = z) with | true => some (x, n) | false => List.find? _ ks)) (Option.map _ (match (Value.str x t).isStr z with | true => _ | false => _))
        rw [es]
        by_cases hz : x = z
        · rw [decide_eq_true hz]
          exact ⟨t', rfl⟩
        · rw [decide_eq_false hz]
          exact i2
    · cases h1
end Wd
end
section
set_option Elab.async false
set_option linter.all false
set_option maxRecDepth 100000
set_option maxHeartbeats 1000000
/-! what the dict TURNED of the top holds -/
namespace Wd
open PySem PySem.Spec PyProof.Rows L2
def turR (e : DictEntry) : Option (Str × Str) := match e.key, e.val with
  | .str x _, .str y _ => some (x, y)
  | _, _ => none
def turL : List (Str × Str) := [("one", "one"), ("up", "down"), ("down", "up"), ("every", "every")]
def turB (K : PySem.W.Frag) : Bool := match K.lookup (He.ga K "TURNED") with
  | some ⟨_, _, .dict es _, _⟩ => decide (es.toList.map turR = turL.map some)
  | _ => false
theorem tur_find : ∀ {l : List DictEntry} {ks : List (Str × Str)}, l.map turR = ks.map some → ∀ z y, ks.find? (fun k => decide (k.1 = z)) = some y → ∃ e, l.find? (·.key.isStr z) = some e ∧ ∃ t, e.val = .str y.2 t
  | [], [], _, z, y, hy => by cases hy
  | [], k :: ks, h, z, y, hy => by cases h
  | e :: l, [], h, z, y, hy => by cases h
  | e :: l, k :: ks, h, z, y, hy => by
    have h : turR e :: l.map turR = some k :: ks.map some := h
    injection h with h1 h2
    obtain ⟨hs, ky, vl⟩ := e
    unfold turR at h1
    split at h1
    · rename_i x t n t' e1 e2
      simp only at e1 e2
      subst e1 e2
      cases h1
      have es : (Value.str x t).isStr z = decide (x = z) := by
        show (x == z) = decide (x = z)
        by_cases h : x = z
        · subst h
          rw [decide_eq_true rfl]
          exact beq_self_eq_true x
        · rw [decide_eq_false h]
          exact beq_eq_false_iff_ne.mpr h
      rw [List.find?_cons] at hy ⊢
      show ∃ e, (match (Value.str x t).isStr z with | true => some _ | false => _) = some e ∧ _
      rw [es]
      have hy : (match decide (x = z) with | true => some (x, n) | false => ks.find? fun k => decide (k.1 = z)) = some y := hy
      by_cases hz : x = z
      · rw [decide_eq_true hz] at hy ⊢
        cases hy
        exact ⟨_, rfl, t', rfl⟩
      · rw [decide_eq_false hz] at hy ⊢
        exact tur_find h2 z y hy
    · cases h1
end Wd
end
section
set_option Elab.async false
set_option linter.all false
set_option maxRecDepth 100000
set_option maxHeartbeats 0
namespace Wd
open PySem PySem.Spec PyProof.Rows L2
def glD (x : Str) (st : Stmt) (dfl : List He.Dv) (kwd : List (Str × He.Dv)) : He.DefD := ⟨(x, none), x, x, defArgs st, defBody st, defScope st, dfl, kwd⟩
def meD (c m q : Str) (st : Stmt) (dfl : List He.Dv) (kwd : List (Str × He.Dv)) : He.DefD := ⟨(c, some m), m, q, defArgs st, defBody st, defScope st, dfl, kwd⟩
def names : List PySem.Str := (["_wall", "TURNED", "turned", "next_up", "next_down", "all_sums", "_plain_sum", "_upward_sums", "_least_sums", "WhosedayError", "BadPiece", "is_integer", "MEMBERS", "Days", "_is_piece", "_starts", "_law_pieces", "_law_in_piece", "_law_in_pieces", "_law_pen", "_law_draw", "_law_pick", "_law_members", "_law_ends", "_law_set_right", "_law_handed", "_law_wide_right"] : List PySem.Str)
def fas : List He.Fa := ([.glo "turned", .glo "next_up", .glo "next_down", .glo "all_sums", .glo "_plain_sum", .glo "_upward_sums", .glo "_least_sums", .glo "is_integer", .glo "_is_piece", .glo "_starts", .glo "_law_pieces", .glo "_law_in_piece", .glo "_law_in_pieces", .glo "_law_pen", .glo "_law_draw", .glo "_law_pick", .glo "_law_members", .glo "_law_ends", .glo "_law_set_right", .glo "_law_handed", .glo "_law_wide_right", .glo "law", .glo "Days", .glo "TURNED", .glo "MEMBERS", .free "abs", .free "all", .free "any", .free "bool", .free "enumerate"] : List He.Fa) ++
  ([.free "int", .free "isinstance", .free "len", .free "list", .free "max", .free "min", .free "property", .free "range", .free "sorted", .free "staticmethod", .free "str", .free "tuple", .cls "Days", .mkr "Days", .noat "Days" "pieces", .noat "Days" "_ones", .noat "Days" "_ups", .noat "Days" "_downs", .noat "Days" "_everys", .noat "Days" "_steps", .meth "Days" "__contains__", .meth "Days" "__add__", .meth "Days" "__or__", .meth "Days" "next_from", .meth "Days" "next_to", .meth "Days" "moved", .meth "Days" "_steps_on", .glo "BadPiece", .exm "BadPiece" "BadPiece" true] : List He.Fa)
def tst (K : PySem.W.Frag) : List Bool := [errB K (He.ga K "BadPiece"),
  iniB K "BadPiece" "index",
  clsB K,
  memB K,
  turB K,
  decide (PySem.W.selfFirst K (He.ga K "Days") = true),
  He.eqO (PySem.W.nsIn K mainGlobals "gcd") (some (some (.builtin "math.gcd"))),
  He.eqO (PySem.W.findIn K (.ref (He.ga K "Days")) "goes_down") (some (some (.ref (He.ma K (He.ga K "Days") "goes_down")))),
  He.eqO (PySem.W.specialIn K (.ref (He.ma K (He.ga K "Days") "goes_down")) "__get__") (some (some (.builtin "property.__get__"))),
  decide (PySem.W.takesIn K (.ref (He.ma K (He.ga K "Days") "goes_down")) = some true),
  recB K (He.ma K (He.ga K "Days") "goes_down") (gtA K ("Days", some "goes_down")),
  gtOk K (gsU.getD 0 ⟨("", none), "", "", defArgs (.Pass ⟨0, 0, 0, 0⟩), [], defScope (.Pass ⟨0, 0, 0, 0⟩), [], []⟩),
  He.eqO (PySem.W.findIn K (.ref (He.ga K "Days")) "goes_up") (some (some (.ref (He.ma K (He.ga K "Days") "goes_up")))),
  He.eqO (PySem.W.specialIn K (.ref (He.ma K (He.ga K "Days") "goes_up")) "__get__") (some (some (.builtin "property.__get__"))),
  decide (PySem.W.takesIn K (.ref (He.ma K (He.ga K "Days") "goes_up")) = some true),
  recB K (He.ma K (He.ga K "Days") "goes_up") (gtA K ("Days", some "goes_up")),
  gtOk K (gsU.getD 1 ⟨("", none), "", "", defArgs (.Pass ⟨0, 0, 0, 0⟩), [], defScope (.Pass ⟨0, 0, 0, 0⟩), [], []⟩),
  He.eqO (PySem.W.findIn K (.ref (He.ga K "Days")) "least") (some (some (.ref (He.ma K (He.ga K "Days") "least")))),
  He.eqO (PySem.W.specialIn K (.ref (He.ma K (He.ga K "Days") "least")) "__get__") (some (some (.builtin "property.__get__"))),
  decide (PySem.W.takesIn K (.ref (He.ma K (He.ga K "Days") "least")) = some true),
  recB K (He.ma K (He.ga K "Days") "least") (gtA K ("Days", some "least")),
  gtOk K (gsU.getD 2 ⟨("", none), "", "", defArgs (.Pass ⟨0, 0, 0, 0⟩), [], defScope (.Pass ⟨0, 0, 0, 0⟩), [], []⟩),
  He.eqO (PySem.W.findIn K (.ref (He.ga K "Days")) "greatest") (some (some (.ref (He.ma K (He.ga K "Days") "greatest")))),
  He.eqO (PySem.W.specialIn K (.ref (He.ma K (He.ga K "Days") "greatest")) "__get__") (some (some (.builtin "property.__get__"))),
  decide (PySem.W.takesIn K (.ref (He.ma K (He.ga K "Days") "greatest")) = some true),
  recB K (He.ma K (He.ga K "Days") "greatest") (gtA K ("Days", some "greatest")),
  gtOk K (gsU.getD 3 ⟨("", none), "", "", defArgs (.Pass ⟨0, 0, 0, 0⟩), [], defScope (.Pass ⟨0, 0, 0, 0⟩), [], []⟩)]
def q (K : PySem.W.Frag) : Bool := fas.all (fun f => f.ok K) && (tst K).all id
def fn0 : List He.DefD := ([glD "turned" (top i_turned) [] [],
  glD "next_up" (top i_next_up) [] [],
  glD "next_down" (top i_next_down) [] [],
  glD "all_sums" (top i_all_sums) [] [],
  glD "_plain_sum" (top i__plain_sum) [] [],
  glD "_upward_sums" (top i__upward_sums) [] [],
  glD "_least_sums" (top i__least_sums) [] [],
  glD "is_integer" (top i_is_integer) [] [],
  glD "_is_piece" (top i__is_piece) [] [],
  glD "_starts" (top i__starts) [] [],
  glD "_law_pieces" (top i__law_pieces) [] []] : List He.DefD)
def fn1 : List He.DefD := ([glD "_law_in_piece" (top i__law_in_piece) [] [],
  glD "_law_in_pieces" (top i__law_in_pieces) [] [],
  glD "_law_pen" (top i__law_pen) [] [],
  glD "_law_draw" (top i__law_draw) [] [],
  glD "_law_pick" (top i__law_pick) [] [],
  glD "_law_members" (top i__law_members) [] [],
  glD "_law_ends" (top i__law_ends) [] [],
  glD "_law_set_right" (top i__law_set_right) [] [],
  glD "_law_handed" (top i__law_handed) [] [],
  glD "_law_wide_right" (top i__law_wide_right) [] [],
  glD "law" (top i_law) [] []] : List He.DefD)
def fn2 : List He.DefD := ([meD "Days" "__init__" "Days.__init__" (inClass (top i_Days) j_Days___init__) [] [],
  meD "Days" "__contains__" "Days.__contains__" (inClass (top i_Days) j_Days___contains__) [] [],
  meD "Days" "__add__" "Days.__add__" (inClass (top i_Days) j_Days___add__) [] [],
  meD "Days" "__or__" "Days.__or__" (inClass (top i_Days) j_Days___or__) [] [],
  meD "Days" "next_from" "Days.next_from" (inClass (top i_Days) j_Days_next_from) [] [],
  meD "Days" "next_to" "Days.next_to" (inClass (top i_Days) j_Days_next_to) [] [],
  meD "Days" "moved" "Days.moved" (inClass (top i_Days) j_Days_moved) [] [],
  meD "Days" "_steps_on" "Days._steps_on" (inClass (top i_Days) j_Days__steps_on) [] [],
  meD "BadPiece" "__init__" "BadPiece.__init__" (inClass (top i_BadPiece) j_BadPiece___init__) [] []] : List He.DefD)
def fn : List He.DefD := fn0 ++ fn1 ++ fn2
def ts : List He.Tab := [((fun K => He.ga K "TURNED"), ["one", "up", "down", "every"]), ((fun K => He.ga K "MEMBERS"), ["one", "up", "down", "every"])]
abbrev R : PySem.W.OpenRow := PySem.W.OpenLaw.row PySem.Challenge.rw_whoseday_k23_whole_sets_of_days
end Wd
end
section
set_option Elab.async false
set_option linter.all false
set_option maxRecDepth 100000
set_option maxHeartbeats 0
namespace Wd
open PySem PySem.Spec PyProof.Rows L2
def asL : List Addr := ([3, 6, 4, 49, 50, 57, 64, 71, 76, 83, 88, 93, 103, 123, 132, 133, 223, 232, 239, 246, 253, 258, 265, 272, 279, 284, 289, 294, 299, 304, 309, 0, 48, 56, 63, 70, 75, 82, 87, 92] : List Addr) ++ ([102, 122, 131, 222, 231, 238, 245, 252, 257, 264, 271, 278, 283, 288, 293, 298, 303, 308, 43, 44, 45, 46, 47, 51, 52, 53, 54, 55, 58, 59, 60, 61, 62, 65, 66, 67, 68, 69, 72, 73] : List Addr) ++ ([74, 77, 78, 79, 80, 81, 84, 85, 86, 89, 90, 91, 101, 104, 120, 121, 126, 127, 128, 129, 130, 145, 150, 157, 164, 170, 176, 182, 188, 193, 198, 203, 212, 220, 221, 224, 225, 228, 229, 230] : List Addr) ++ ([233, 234, 235, 236, 237, 240, 241, 242, 243, 244, 247, 248, 249, 250, 251, 254, 255, 256, 259, 260, 261, 262, 263, 266, 267, 268, 269, 270, 273, 274, 275, 276, 277, 280, 281, 282, 285, 286, 287, 290] : List Addr) ++ ([291, 292, 295, 296, 297, 300, 301, 302, 305, 306, 307, 119, 144, 149, 156, 163, 169, 175, 181, 187, 192, 197, 202, 210, 211, 219, 114, 115, 116, 117, 118, 141, 142, 143, 146, 147, 148, 151, 152, 153] : List Addr) ++ ([154, 155, 158, 159, 160, 161, 162, 168, 174, 180, 186, 189, 190, 191, 194, 195, 196, 199, 200, 201, 209, 213, 214, 215, 216, 217, 218] : List Addr)
abbrev hk : PySem.W.Hook := hookU asL q fn ts
def ob (s : PySem.W.SharedT) : He.AlT := seeU asL q fn ts (HandSHeadRun.getT s)
theorem ob_eq (s : PySem.W.SharedT) : ob s = hk.obs s.abs := seeU_eq (HandSHeadRun.getT_eq s)
noncomputable abbrev endI (w : World) := HandSHeadRun.wholeF (fun p => HandSHeadRun.stepQ (HandSHeadRun.denQ HandSHeadRun.tabQ) p w) HandSHeadRun.fenceQ 12000 R.prog
noncomputable abbrev endW (w : World) (os : OsState) := (endI w).map (fun x => x.2)
abbrev KK (s : PySem.W.SharedT) : PySem.W.Frag := He.frG (HandSHeadRun.getT s) asL
theorem glue {x : Option (Shared × PySem.W.SharedT)} {l : Shared × PySem.W.SharedT → Bool} {β : Type} {se : PySem.W.SharedT → β} {g : β} {w : World}
    (a : x.map (fun s => (l s, se s.2)) = some (true, g)) (d : x.map (fun s => ob s.2) = some (hk.val w)) :
    x.map (fun s => (l s, se s.2, ob s.2)) = some (true, g, hk.val w) := by
  cases x with
  | none => cases a
  | some s =>
    have a' := Option.some.inj a
    have d' : ob s.2 = hk.val w := Option.some.inj d
    have a1 : l s = true := congrArg Prod.fst a'
    have a2 : se s.2 = g := congrArg Prod.snd a'
    show some (l s, se s.2, ob s.2) = some (true, g, hk.val w)
    rw [a1, a2, d']; rfl
end Wd
end
section
set_option Elab.async false
set_option linter.all false
set_option maxRecDepth 100000
set_option maxHeartbeats 0
namespace Wd
open PySem PySem.Spec PyProof.Rows L2
theorem runBf (w : World) : (endI (w.withFollow "special-get-raises" false)).map (fun s => ob s.2) = some (hk.val (w.withFollow "special-get-raises" false)) := by kernel_rfl
end Wd
end
section
set_option Elab.async false
set_option linter.all false
set_option maxRecDepth 100000
set_option maxHeartbeats 0
namespace Wd
open PySem PySem.Spec PyProof.Rows L2
theorem runBt (w : World) : (endI (w.withFollow "special-get-raises" true)).map (fun s => ob s.2) = some (hk.val (w.withFollow "special-get-raises" true)) := by kernel_rfl
end Wd
end
section
set_option Elab.async false
set_option linter.all false
set_option maxRecDepth 100000
set_option maxHeartbeats 0
namespace Wd
open PySem PySem.Spec PyProof.Rows L2
theorem runAf (w : World) : (endI (w.withFollow "special-get-raises" false)).map (fun s => (HandSHeadRun.looksF R.prog s.1.heap s.2.abs, HandSHeadRun.seenQ (PySem.W.view R.prog [0, 33]) names (importedModules R.prog.main.body) (fun s => PySem.W.xlAt (PySem.W.view R.prog [0, 33]) [] s && PySem.W.recOk R.toRowW.records s) s.2.abs)) = some (true, PySem.W.openGood (PySem.W.view R.prog [0, 33]) names) := by kernel_rfl
end Wd
end
section
set_option Elab.async false
set_option linter.all false
set_option maxRecDepth 100000
set_option maxHeartbeats 0
namespace Wd
open PySem PySem.Spec PyProof.Rows L2
theorem runAt (w : World) : (endI (w.withFollow "special-get-raises" true)).map (fun s => (HandSHeadRun.looksF R.prog s.1.heap s.2.abs, HandSHeadRun.seenQ (PySem.W.view R.prog [0, 33]) names (importedModules R.prog.main.body) (fun s => PySem.W.xlAt (PySem.W.view R.prog [0, 33]) [] s && PySem.W.recOk R.toRowW.records s) s.2.abs)) = some (true, PySem.W.openGood (PySem.W.view R.prog [0, 33]) names) := by kernel_rfl
end Wd
end
section
set_option Elab.async false
set_option linter.all false
set_option maxRecDepth 100000
set_option maxHeartbeats 0
namespace Wd
open PySem PySem.Spec PyProof.Rows L2
theorem run (w : World) : HandSHeadRun.RunEqI R (PySem.W.view R.prog [0, 33]) hk ob 12000 names w :=
  PySem.W.byRow2 "special-get-raises" (P := fun w => HandSHeadRun.RunEqI R (PySem.W.view R.prog [0, 33]) hk ob 12000 names w)
    (fun w => glue (l := fun x => HandSHeadRun.looksF R.prog x.1.heap x.2.abs) (se := fun s => HandSHeadRun.seenQ (PySem.W.view R.prog [0, 33]) names (importedModules R.prog.main.body) (fun s => PySem.W.xlAt (PySem.W.view R.prog [0, 33]) [] s && PySem.W.recOk R.toRowW.records s) s.abs) (runAf w) (runBf w)) (fun w => glue (l := fun x => HandSHeadRun.looksF R.prog x.1.heap x.2.abs) (se := fun s => HandSHeadRun.seenQ (PySem.W.view R.prog [0, 33]) names (importedModules R.prog.main.body) (fun s => PySem.W.xlAt (PySem.W.view R.prog [0, 33]) [] s && PySem.W.recOk R.toRowW.records s) s.abs) (runAt w) (runBt w)) w
end Wd
end
section
set_option Elab.async false
set_option linter.all false
set_option maxRecDepth 100000
set_option maxHeartbeats 0
open PySem PySem.W PySem.Calls PyProof.Rows HandSHeadRun
namespace Wd
theorem zcut (H : R.wellSaid = true → R.Holds) : PySem.Challenge.rw_whoseday_k23_whole_sets_of_days.Holds := by
  w_on; o_law
  exact H (by assumption)
theorem zbare : R.prog.bare := ⟨rfl, rfl, rfl, rfl, rfl, by decide +kernel⟩
theorem zdef : defOf (view R.prog [0, 33]) R.name = some ((topDef R.prog 33), []) := by kernel_rfl
theorem zthe : R.prog.theDef R.name = some ((topDef R.prog 33).params, (topDef R.prog 33).body, (topDef R.prog 33).scope) := by kernel_rfl
theorem zok : (chainsOk (view R.prog [0, 33]) && opensWell R.prog && (frees R.toRowW && R.within.isEmpty)) = true := by decide +kernel
theorem zwit : R.toRowW.promised := by w_witness2
end Wd
end
section
set_option Elab.async false
set_option linter.all false
set_option maxRecDepth 100000
set_option maxHeartbeats 1000000
namespace Wd
open PySem PySem.Spec PyProof.Rows L2
abbrev FnG (K : PySem.W.Frag) (x : Str) (i : Nat) (f : Addr) (fd : FuncData) : Prop := FunD K x x (defArgs (top i)) (defBody (top i)) (defScope (top i)) [] [] f fd
/-! ### the pen -/
def penD (l : Addr) (a b : Int) : List (Key × V) := [(Sum.inr "cells", .ref l), (Sum.inr "at", .int a), (Sum.inr "left", .int b)]
theorem k1 : ¬ (("cells" : Str) = "at") := by decide +kernel
theorem k2 : ¬ (("cells" : Str) = "left") := by decide +kernel
theorem k3 : ¬ (("at" : Str) = "left") := by decide +kernel
theorem j1 : ¬ ((Sum.inr ("cells" : Str) : Key) = Sum.inr ("at" : Str)) := fun z => k1 (Sum.inr.inj z)
theorem j2 : ¬ ((Sum.inr ("cells" : Str) : Key) = Sum.inr ("left" : Str)) := fun z => k2 (Sum.inr.inj z)
theorem j3 : ¬ ((Sum.inr ("at" : Str) : Key) = Sum.inr ("left" : Str)) := fun z => k3 (Sum.inr.inj z)
section
variable {l d : Addr} {a b x : Int} {H : Hp}
theorem pd_cells : valV (penD l a b) (Sum.inr "cells") = some (.ref l) := valV_pos rfl
theorem pd_at : valV (penD l a b) (Sum.inr "at") = some (.int a) := (valV_neg j1).trans (valV_pos rfl)
theorem pd_left : valV (penD l a b) (Sum.inr "left") = some (.int b) := (valV_neg j2).trans ((valV_neg j3).trans (valV_pos rfl))
theorem pp_at : putK (penD l a b) (Sum.inr "at") (.int x) = penD l x b := by
  simp [putK, penD, k1, Ne.symm k3]
theorem pp_left : putK (penD l a b) (Sum.inr "left") (.int x) = penD l a x := by
  simp [putK, penD, k2, k3]
theorem gt_cells (h : H d = some (.dK (penD l a b))) : DGet H d (.str "cells") (some (.ref l)) := by
  have z := DGet.k (k := Sum.inr "cells") h
  rw [pd_cells] at z
  exact z
theorem gt_at (h : H d = some (.dK (penD l a b))) : DGet H d (.str "at") (some (.int a)) := by
  have z := DGet.k (k := Sum.inr "at") h
  rw [pd_at] at z
  exact z
theorem gt_left (h : H d = some (.dK (penD l a b))) : DGet H d (.str "left") (some (.int b)) := by
  have z := DGet.k (k := Sum.inr "left") h
  rw [pd_left] at z
  exact z
theorem pt_at (h : H d = some (.dK (penD l a b))) : DPut H d (.str "at") (.int x) (upd H d (.dK (penD l x b))) := by
  have z := DPut.k (k := Sum.inr "at") (v := .int x) h (small1000 (show 3 ≤ 1000 by decide))
  rw [pp_at] at z
  exact z
theorem pt_left (h : H d = some (.dK (penD l a b))) : DPut H d (.str "left") (.int x) (upd H d (.dK (penD l a x))) := by
  have z := DPut.k (k := Sum.inr "left") (v := .int x) h (small1000 (show 3 ≤ 1000 by decide))
  rw [pp_left] at z
  exact z
end
theorem ifT {p : Prop} [Decidable p] {A B : Prop} (h : p) (a : A) : if decide p = true then A else B := by rw [if_pos (decide_eq_true h)]; exact a
theorem ifF {p : Prop} [Decidable p] {A B : Prop} (h : ¬ p) (b : B) : if decide p = true then A else B := by
  rw [decide_eq_false h, if_neg Bool.false_ne_true]
  exact b
theorem ifC {p : Prop} [Decidable p] {A B : Prop} (a : p → A) (b : ¬ p → B) : if decide p = true then A else B := by
  by_cases h : p
  · exact ifT h (a h)
  · exact ifF h (b h)
theorem cm1 (x y : Int) : CMul (x % 2147483629 + 1) y := .inl ⟨by omega, by omega⟩
theorem cm2 (x y : Int) : CMul (x % 2147483647) y := .inl ⟨by omega, by omega⟩
theorem cm3 (x y : Int) : CMul (x % 2147483587) y := .inl ⟨by omega, by omega⟩
/-- at d a pen over a list at l, with a next place -/
def Pen (H : Hp) (d l : Addr) (a : Int) : Prop :=
  ∃ (cs : List Int) (b : Int), H d = some (.dK (penD l a b)) ∧ H l = some (.lst (cs.map V.int)) ∧ cs.length ≤ 63 ∧ 0 ≤ b ∧ 0 ≤ a
/-- all but the pen's dict stands as before -/
def But (d : Addr) (H H' : Hp) : Prop := ∀ c o, H c = some o → c ≠ d → H' c = some o
theorem But.refl {d : Addr} {H : Hp} : But d H H := fun _ _ z _ => z
theorem But.trans {d : Addr} {H H1 H2 : Hp} (x : But d H H1) (y : But d H1 H2) : But d H H2 := fun c o z n => y c o (x c o z n) n
theorem But.same {d : Addr} {H H1 : Hp} (x : Same H H1) : But d H H1 := fun c o z _ => x c o z
theorem But.upd {d : Addr} {H : Hp} {o : HO} : But d H (upd H d o) := fun c u z n => by rw [upd_ne n]; exact z
def spPen (K : PySem.W.Frag) : Sp := fun vs H Q _ => ∃ (a : Addr) (ns : List Int), vs = [.ref a] ∧ SqL K H a (ns.map V.int) ∧ ns.length ≤ 63 ∧
  ∀ H' d l, Same H H' → H d = none → H l = none → Pen H' d l 0 → Q (.ref d) H'
def spDraw : Sp := fun vs H Q _ => ∃ (d l : Addr) (a n : Int), vs = [.ref d, .int n] ∧ Pen H d l a ∧ a ≤ 100000 ∧ 0 < n ∧ n < 1073741824 ∧
  ∀ r a' H', 0 ≤ r → r < n → a ≤ a' → a' ≤ a + 1 → Pen H' d l a' → But d H H' → Q (.int r) H'
def spPick (K : PySem.W.Frag) : Sp := fun vs H Q _ => ∃ (d l : Addr) (a : Int) (s : V), vs = [.ref d, s] ∧ Pen H d l a ∧ a ≤ 100000 ∧
  ((∃ t xs, s = .ref t ∧ t ≠ d ∧ H t = some (.lst xs) ∧ xs ≠ [] ∧ xs.length ≤ 1000 ∧ ∀ x a' H', x ∈ xs → a ≤ a' → a' ≤ a + 1 → Pen H' d l a' → But d H H' → Q x H') ∨
   ∃ z : Str, s = .str z ∧ z.cps.toList ≠ [] ∧ z.length ≤ 1000 ∧ ∀ c a' H', c ∈ z.cps.toList → a ≤ a' → a' ≤ a + 1 → Pen H' d l a' → But d H H' → Q (.str ⟨#[c]⟩) H')
structure TxtP (mg : Str → Option Value) : Prop where
  list : mg "list" = none
  int : mg "int" = none
  len : mg "len" = none
theorem dp_ints {K : PySem.W.Frag} {H : Hp} : ∀ cs : List Int, DpAll K H (cs.map V.int) (cs.map PyData.int)
  | [] => .nil
  | c :: r => .cons (.int c) (dp_ints r)
theorem shaped_ints0 (cs : List Int) : SeqAt.shaped (.list (cs.map PyData.int)) = true := PySem.W.ke_shaped_ints cs
theorem at_mod {cs : List Int} (h : cs ≠ []) (a : Int) : (0 : Int) < (cs.length : Int) ∧ ∃ c, atI (cs.map V.int) (a % (cs.length : Int)) = some (.int c) := by
  have pos : (0 : Int) < (cs.length : Int) := by
    have := List.length_pos_iff.mpr h
    omega
  obtain ⟨j, hj⟩ := Int.eq_ofNat_of_zero_le (Int.emod_nonneg a (show (cs.length : Int) ≠ 0 by omega))
  have lt := Int.emod_lt_of_pos a pos
  rw [hj] at lt ⊢
  have lt2 : j < cs.length := by omega
  refine ⟨pos, cs[j], atI_nat ?_⟩
  rw [List.getElem?_map, List.getElem?_eq_getElem lt2]
  rfl
theorem cut_ints (ns : List Int) (lo hi : Option Int) : ∃ cs : List Int, cutV (ns.map V.int) lo hi = cs.map V.int ∧ cs.length ≤ ns.length := by
  refine ⟨(ns.drop (HT.sIx (ns.map V.int).length 0 lo)).take (HT.sIx (ns.map V.int).length (ns.map V.int).length hi - HT.sIx (ns.map V.int).length 0 lo), ?_, ?_⟩
  · unfold cutV
    rw [List.map_take, List.map_drop]
  · rw [List.length_take, List.length_drop]
    omega
section
variable {P : Program} {w : World} {K : PySem.W.Frag} {mg : Str → Option Value} {base : Heap} {f : Addr} {fd : FuncData}
theorem scPen : FnScope ["_law_script"] ["_law_script"] (defScope (top i__law_pen)) := ⟨rfl, rfl, rfl, by decide +kernel, rfl, by decide +kernel, by decide +kernel⟩
theorem ok_pen (F : FnG K "_law_pen" i__law_pen f fd) (T : TxtP mg) : FnOk P w K mg base CX0 1 f fd ["_law_script"] (spPen K) := by
  refine F.ok scPen (fun vs H Q E h => ?_) (fun cdv A outer s H vs Q E hr h => ?_)
  · obtain ⟨a, ns, rfl, _⟩ := h
    rfl
  · obtain ⟨a, ns, rfl, hs, hl, k⟩ := h
    refine ⟨_, PSs.nox (pss_one (ps_ret (pe_disp (pps_cons pe_str (pe_callTy call_list_of (by rfl) T.list (by decide +kernel) (pa_cons (pe_slice sl_list (pv 0) po_none (po_some pe_int)) pa_nil))
      (pps_cons pe_str pe_int (pps_cons pe_str pe_int pps_nil))) (by rfl) (by rfl) (fun z => by cases z) (by decide)))), ?_⟩
    intro p hp
    have np : ∀ {c : Addr} {o : HO}, H c = some o → c ≠ p := fun z => ne_of_none z hp
    have h0 : Same H (upd H p (.dK [])) := fun c o z => by
      rw [upd_ne (np z)]
      exact z
    refine ⟨_, rfl, 63, rfl, a, _, rfl, h0.seq hs, fun s1 hs1 => ?_⟩
    refine ⟨s1, _, rfl, .inl (SqL.of upd_same), fun l hl1 => ?_⟩
    obtain ⟨cs, hc, hz⟩ := cut_ints ns none (some 63)
    rw [hc] at hl1
    rw [hc]
    have e1 : p ≠ s1 := ne_of_none upd_same hs1
    have e2 : p ≠ l := fun z => by
      rw [← z, upd_ne e1, upd_same] at hl1
      cases hl1
    have e3 : s1 ≠ l := ne_of_none upd_same hl1
    have nl : H l = none := by
      rw [upd_ne e3.symm, upd_ne e2.symm] at hl1
      exact hl1
    have ns1 : H s1 = none := by
      rw [upd_ne e1.symm] at hs1
      exact hs1
    refine ⟨by rw [upd_ne e2, upd_ne e1, upd_same], penD l 0 0, rfl, (show 3 ≤ 15 by decide), ?_⟩
    have em : mergeK [] (penD l 0 0) = penD l 0 0 := by
      simp [mergeK, penD, putK, k1, k2, k3]
    rw [em]
    refine k _ p l (fun c o z => ?_) hp nl ⟨cs, 0, upd_same, ?_, by omega, Int.le_refl 0, Int.le_refl 0⟩
    · rw [upd_ne (np z), upd_ne (ne_of_none z nl), upd_ne (ne_of_none z ns1), upd_ne (np z)]
      exact z
    · rw [upd_ne e2.symm, upd_same]
theorem scDraw : FnScope ["_law_pen_here", "_law_many", "_law_digit", "_law_spot", "_law_cell", "_law_mixed"] ["_law_pen_here", "_law_many"] (defScope (top i__law_draw)) := ⟨rfl, rfl, rfl, by decide +kernel, rfl, by decide +kernel, by decide +kernel⟩
theorem ok_draw (F : FnG K "_law_draw" i__law_draw f fd) (T : TxtP mg) : FnOk P w K mg base CX0 1 f fd ["_law_pen_here", "_law_many"] spDraw := by
  refine F.ok scDraw (fun vs H Q E h => ?_) (fun cdv A outer s H vs Q E hr h => ?_)
  · obtain ⟨d, l, a, n, rfl, _⟩ := h
    rfl
  · obtain ⟨d, l, a, n, rfl, ⟨cs, b, hd, hl, hz, hb, ha⟩, ha2, hn, hn2, k⟩ := h
    have hu := hu_of hr
    have hu64 := hr.units
    refine ⟨_, PSs.nox (pss_cons (ps_if (pt_cmpR op_ge (pe_dget hu (pv 0) pe_str (fun _ _ => rfl)) (pv 1) (nomark _)) (pss_cons (ps_set (i := 2) scDraw.nd rfl (Or.inl rfl) (pe_op op_mod (pe_callTy call_int1 (by rfl) T.int (by decide +kernel) (pa_cons (pe_dget hu (pv 0) pe_str (fun _ _ => rfl)) pa_nil)) (pv 1)))
        (pss_cons (ps_dput hu (pv 0) pe_str (pe_op op_fdiv (pe_dget hu (pv 0) pe_str (fun _ _ => rfl)) (pv 1)) rfl)
        (pss_one (ps_ret (pv 2))))) pss_nil)
        (pss_cons (ps_set (i := 3) scDraw.nd rfl (Or.inl rfl) (pe_dget hu (pv 0) pe_str (fun _ _ => rfl)))
        (pss_cons (ps_dput hu (pv 0) pe_str (pe_op op_add (pv 3) pe_int) rfl)
        (pss_cons (ps_set (i := 4) scDraw.nd rfl (Or.inl rfl) (pe_op op_add (pe_op op_mul pe_int (pv 3)) pe_int))
        (pss_cons (ps_if (pt_cmpR (op_neD hu64) (pe_dget hu (pv 0) pe_str (fun _ _ => rfl)) (pe_lst pa_nil) (nomark _)) (pss_one (ps_set (i := 4) scDraw.nd rfl (Or.inl rfl) (pe_ix ix_list (pe_dget hu (pv 0) pe_str (fun _ _ => rfl)) (pe_op op_mod (pe_callTy call_int1 (by rfl) T.int (by decide +kernel) (pa_cons (pv 3) pa_nil)) (pe_callB call_len (by rfl) T.len PySem.boot_len (pa_cons (pe_dget hu (pv 0) pe_str (fun _ _ => rfl)) pa_nil))) (fun _ _ => rfl)))) pss_nil)
        (pss_cons (ps_if (PW.pt (pw_and (pt_cmpR op_lt (pv 3) (pe_callB call_len (by rfl) T.len PySem.boot_len (pa_cons (pe_dget hu (pv 0) pe_str (fun _ _ => rfl)) pa_nil)) (nomark _)) (pw_and1 (pt_cmpR op_ge (pv 4) (pe_op op_pow pe_int pe_int) (nomark _))))) (pss_cons (ps_dput hu (pv 0) pe_str (pe_op op_fdiv (pe_op op_sub (pv 4) (pe_op op_pow pe_int pe_int)) (pv 1)) rfl)
        (pss_one (ps_ret (pe_op op_mod (pe_callTy call_int1 (by rfl) T.int (by decide +kernel) (pa_cons (pe_op op_sub (pv 4) (pe_op op_pow pe_int pe_int)) pa_nil)) (pv 1))))) pss_nil)
        (pss_cons (ps_set (i := 5) scDraw.nd rfl (Or.inl rfl) (pe_op op_add (pe_op op_add (pe_op op_mul (pe_op op_add (pe_op op_mod (pe_callTy call_int1 (by rfl) T.int (by decide +kernel) (pa_cons (pv 4) pa_nil)) pe_int) pe_int) (pe_op op_add (pe_op op_mul pe_int (pv 3)) pe_int)) (pe_op op_mul (pe_op op_mul pe_int (pv 3)) (pv 3))) pe_int))
        (pss_cons (ps_set (i := 5) scDraw.nd rfl (Or.inl rfl) (pe_op op_mod (pe_callTy call_int1 (by rfl) T.int (by decide +kernel) (pa_cons (pv 5) pa_nil)) pe_int))
        (pss_cons (ps_set (i := 5) scDraw.nd rfl (Or.inl rfl) (pe_op op_mod (pe_callTy call_int1 (by rfl) T.int (by decide +kernel) (pa_cons (pe_op op_mul (pv 5) (pe_op op_add (pv 5) pe_int)) pa_nil)) pe_int))
        (pss_cons (ps_set (i := 5) scDraw.nd rfl (Or.inl rfl) (pe_op op_mod (pe_callTy call_int1 (by rfl) T.int (by decide +kernel) (pa_cons (pe_op op_mul (pv 5) (pv 5)) pa_nil)) pe_int))
        (pss_one (ps_ret (pe_op op_mod (pe_callTy call_int1 (by rfl) T.int (by decide +kernel) (pa_cons (pe_op op_fdiv (pv 5) pe_int) pa_nil)) (pv 1)))))))))))))), ?_⟩
    refine ⟨_, rfl, d, _, rfl, gt_left hd, _, rfl, _, _, rfl, rfl, _, rfl, ?_⟩
    by_cases hc : n ≤ b
    · refine ifT hc ?_
      refine ⟨_, rfl, d, _, rfl, gt_left hd, .inl ⟨b, rfl, ?_⟩⟩
      refine ⟨_, rfl, b, n, rfl, rfl, hn, ?_⟩
      refine ⟨_, rfl, d, _, rfl, gt_left hd, _, rfl, b, n, rfl, rfl, ⟨hn, hn2⟩, ?_⟩
      refine ⟨_, rfl, d, _, rfl, pt_left hd, ?_⟩
      refine ⟨_, rfl, ?_⟩
      have dl : l ≠ d := ne_of hl hd (by intro z; cases z)
      exact k _ a _ (Int.emod_nonneg b (by omega)) (Int.emod_lt_of_pos b hn) (Int.le_refl a) (by omega)
        ⟨cs, b / n, upd_same, by rw [upd_ne dl]; exact hl, hz, Int.ediv_nonneg hb (by omega), ha⟩ But.upd
    · refine ifF hc ?_
      have dl : l ≠ d := ne_of hl hd (by intro z; cases z)
      refine ⟨_, rfl, d, _, rfl, gt_at hd, ?_⟩
      refine ⟨_, rfl, a, 1, rfl, rfl, _, rfl, d, _, rfl, pt_at hd, ?_⟩
      refine ⟨_, rfl, 37, a, rfl, rfl, .inl ⟨by decide, by decide⟩, _, _, rfl, rfl, ?_⟩
      refine ⟨_, rfl, d, _, rfl, gt_cells upd_same, Nat.zero_le _, fun p hp => ?_⟩
      have hl1 : upd H d (.dK (penD l (a + 1) b)) l = some (.lst (cs.map V.int)) := by rw [upd_ne dl]; exact hl
      have lp : l ≠ p := ne_of_none hl1 hp
      have dp : d ≠ p := ne_of_none upd_same hp
      have h2l : upd (upd H d (.dK (penD l (a + 1) b))) p (.lst []) l = some (.lst (cs.map V.int)) := by rw [upd_ne lp]; exact hl1
      have h2d : upd (upd H d (.dK (penD l (a + 1) b))) p (.lst []) d = some (.dK (penD l (a + 1) b)) := by rw [upd_ne dp, upd_same]
      have h2b : But d H (upd (upd H d (.dK (penD l (a + 1) b))) p (.lst [])) := fun c o z n => by
        have z1 : upd H d (.dK (penD l (a + 1) b)) c = some o := by rw [upd_ne n]; exact z
        rw [upd_ne (ne_of_none z1 hp)]
        exact z1
      refine ⟨_, _, .lst (SqL.of h2l) (dp_ints cs), .lst (SqL.of upd_same) .nil, shaped_ints0 cs, shaped_ints0 [], _, rfl, ?_⟩
      generalize upd (upd H d (.dK (penD l (a + 1) b))) p (.lst []) = H2 at h2l h2d h2b ⊢
      have out : ∀ (r b' : Int), 0 ≤ r → r < n → 0 ≤ b' → Q (.int r) (upd H2 d (.dK (penD l (a + 1) b'))) := fun r b' r0 rn b0 =>
        k r (a + 1) _ r0 rn (by omega) (Int.le_refl _) ⟨cs, b', upd_same, by rw [upd_ne dl]; exact h2l, hz, b0, by omega⟩ (h2b.trans But.upd)
      have out2 : ∀ (r : Int), 0 ≤ r → r < n → Q (.int r) H2 := fun r r0 rn =>
        k r (a + 1) _ r0 rn (by omega) (Int.le_refl _) ⟨cs, b, h2d, h2l, hz, hb, by omega⟩ h2b
      by_cases hcs : cs = []
      all_goals first
        | (have hcs0 : cs = [] := hcs
           rw [show (!PyData.eqv (.list (cs.map PyData.int)) (.list [])) = false from by rw [hcs]; rfl]
           refine iteF ?_)
        | (rw [show (!PyData.eqv (.list (cs.map PyData.int)) (.list [])) = true from by
             obtain ⟨c0, cr, rfl⟩ := List.exists_cons_of_ne_nil hcs
             rfl]
           refine iteT ?_
           obtain ⟨pos, c, at_⟩ := at_mod hcs a
           refine ⟨_, rfl, d, _, rfl, gt_cells h2d, _, rfl, .inl ⟨a, rfl, _, rfl, d, _, rfl, gt_cells h2d, _, cs.length, rfl, .inl ⟨_, SqL.of h2l, by rw [List.length_map]⟩, _, _, rfl, rfl, pos, l, _, _, _, rfl, rfl, SqL.of h2l, at_, ?_⟩⟩)
      all_goals
        refine ⟨_, rfl, _, rfl, d, _, rfl, gt_cells h2d, _, cs.length, rfl, .inl ⟨_, SqL.of h2l, by rw [List.length_map]⟩, _, _, rfl, rfl, _, rfl, ?_⟩
        refine ifC (fun hlt => ?_) (fun hlt => ?_)
      all_goals first
        | (refine ⟨_, rfl, 10, 18, rfl, rfl, ⟨by decide, by decide, by decide⟩, _, _, rfl, rfl, _, rfl, ?_⟩
           refine ifC (fun hge => ?_) (fun hge => ?_))
        | refine iteF ?_
      all_goals first
        | (refine ⟨_, rfl, 10, 18, rfl, rfl, ⟨by decide, by decide, by decide⟩, _, _, rfl, rfl, _, rfl, _, _, rfl, rfl, ⟨hn, hn2⟩, _, rfl, d, _, rfl, pt_left h2d, ?_⟩
           refine ⟨_, rfl, 10, 18, rfl, rfl, ⟨by decide, by decide, by decide⟩, _, _, rfl, rfl, .inl ⟨_, rfl, _, rfl, _, _, rfl, rfl, hn, ?_⟩⟩
           exact out _ _ (Int.emod_nonneg _ (by omega)) (Int.emod_lt_of_pos _ hn) (Int.ediv_nonneg (Int.sub_nonneg_of_le hge) (by omega)))
        | (refine ⟨_, rfl, .inl ⟨_, rfl, _, _, rfl, rfl, (show (0 : Int) < 2147483629 by decide), _, _, rfl, rfl, _, rfl, _, _, rfl, rfl, .inl ⟨by decide, by decide⟩, _, _, rfl, rfl, _, _, rfl, rfl, cm1 _ _,
             _, rfl, _, _, rfl, rfl, .inl ⟨by decide, by decide⟩, _, rfl, _, _, rfl, rfl, .inl ⟨by omega, by omega⟩, _, _, rfl, rfl, _, _, rfl, rfl, ?_⟩⟩
           refine ⟨_, rfl, .inl ⟨_, rfl, _, _, rfl, rfl, (show (0 : Int) < 2147483647 by decide), ?_⟩⟩
           refine ⟨_, rfl, _, rfl, _, _, rfl, rfl, _, _, rfl, rfl, cm2 _ _, .inl ⟨_, rfl, _, _, rfl, rfl, (show (0 : Int) < 2147483587 by decide), ?_⟩⟩
           refine ⟨_, rfl, _, rfl, _, _, rfl, rfl, cm3 _ _, .inl ⟨_, rfl, _, _, rfl, rfl, (show (0 : Int) < 2147483563 by decide), ?_⟩⟩
           refine ⟨_, rfl, _, _, rfl, rfl, ⟨by decide, by decide⟩, .inl ⟨_, rfl, _, rfl, _, _, rfl, rfl, hn, ?_⟩⟩
           exact out2 _ (Int.emod_nonneg _ (by omega)) (Int.emod_lt_of_pos _ hn))
end
end Wd
end
section
set_option Elab.async false
set_option linter.all false
set_option maxRecDepth 100000
set_option maxHeartbeats 1000000
namespace Wd
open PySem PySem.Spec PyProof.Rows L2
/-- a def of the text: what it keeps, under its name -/
structure Df (P : Program) (w : World) (K : PySem.W.Frag) (mg : Str → Option Value) (base : Heap) (CX : CXT) (k : Nat) (x : Str) (ps : List Str) (sp : Sp) : Prop where
  ex : ∃ f fd, FnOk P w K mg base CX k f fd ps sp ∧ mg x = some (.ref f) ∧ PySem.W.keepIn K (.ref f) = true ∧ Binds K fd ps []
section
variable {X : Cx} {CX : CXT} {k : Nat} {x : Str} {ps : List Str} {sp : Sp} {E : XK} {e : Expr} {es : List Expr} {t : TA} {p pos : Pos}
theorem pe_cd (D : Df X.prog X.w X.K X.mg X.base CX k x ps sp) (hr : Room k X.A) (hx : Passes CX X E) (ha : PA X (e :: es) t) (hg : Gl X x := by rfl)
    (hdb : (x == ("__debug__" : Str)) = false := by decide)
    (he : starEach (e :: es) X.env = (false, eval e X.env) :: starEach es X.env := by rfl) (hpl : (backTo pos (starEach es X.env)).any (·.1) = false := by rfl) :
    PE X (.Call (.Name x p) (e :: es) [] pos) (tCall sp [] E t) := by
  obtain ⟨f, fd, G, hm, hk, hb⟩ := D.ex
  exact pe_call G hr hg hm hk hb .nil hx ha hdb he hpl
end
section
variable {P : Program} {w : World} {K : PySem.W.Frag} {mg : Str → Option Value} {base : Heap} {f : Addr} {fd : FuncData}
theorem same_upd {H : Hp} {a : Addr} {o : HO} (ha : H a = none) : Same H (upd H a o) := fun b z hb => by
  rw [upd_ne (ne_of_none hb ha)]
  exact hb
theorem Pen.same {d l : Addr} {a : Int} {H H' : Hp} (s : Same H H') (h : Pen H d l a) : Pen H' d l a := by
  obtain ⟨cs, b, h1, h2, h3⟩ := h
  exact ⟨cs, b, s _ _ h1, s _ _ h2, h3⟩
theorem scPick : FnScope ["_law_pen_here", "_law_some"] ["_law_pen_here", "_law_some"] (defScope (top i__law_pick)) := ⟨rfl, rfl, rfl, by decide +kernel, rfl, by decide +kernel, by decide +kernel⟩
theorem ok_pick (F : FnG K "_law_pick" i__law_pick f fd) (T : TxtP mg) (Dd : Df P w K mg base CX0 1 "_law_draw" ["_law_pen_here", "_law_many"] spDraw) : FnOk P w K mg base CX0 2 f fd ["_law_pen_here", "_law_some"] (spPick K) := by
  refine F.ok scPick (fun vs H Q E h => ?_) (fun cdv A outer s H vs Q E hr h => ?_)
  · obtain ⟨d, l, a, s, rfl, _⟩ := h
    rfl
  · obtain ⟨d, l, a, v, rfl, hp, ha, h⟩ := h
    refine ⟨_, PSs.nox (pss_one (ps_ret (pe_ix ix_seq (pv 1) (pe_cd Dd (hr.mono (by decide)) pass0 (pa_cons (pv 0) (pa_cons (pe_callB call_len (by rfl) T.len PySem.boot_len (pa_cons (pv 1) pa_nil)) pa_nil))) (fun _ _ => rfl)))), ?_⟩
    rcases h with ⟨t, xs, rfl, td, ht, hx, hz, k⟩ | ⟨z, rfl, hx, hz, k⟩
    · have pos : 0 < xs.length := List.length_pos_iff.mpr hx
      refine ⟨_, rfl, _, rfl, _, rfl, _, xs.length, rfl, .inl ⟨_, SqL.of ht, rfl⟩, d, l, a, xs.length, rfl, hp, ha, by omega, by omega, fun r a' H1 r0 rn g1 g2 p1 b1 => ?_⟩
      obtain ⟨j, hj⟩ := Int.eq_ofNat_of_zero_le r0
      subst hj
      have lt : j < xs.length := by omega
      exact .inl ⟨t, xs, _, _, rfl, rfl, SqL.of (b1 t _ ht td), atI_nat (List.getElem?_eq_getElem lt), k _ a' H1 (List.getElem_mem lt) g1 g2 p1 b1⟩
    · have pos : 0 < z.cps.toList.length := List.length_pos_iff.mpr hx
      have ez : z.length = z.cps.toList.length := by simp [Str.length]
      refine ⟨_, rfl, _, rfl, _, rfl, _, z.length, rfl, ⟨by rw [sizeLine_eq]; omega, rfl⟩, d, l, a, z.length, rfl, hp, ha, by omega, by omega, fun r a' H1 r0 rn g1 g2 p1 b1 => ?_⟩
      obtain ⟨j, hj⟩ := Int.eq_ofNat_of_zero_le r0
      subst hj
      have lt : j < z.cps.toList.length := by omega
      exact .inr (.inr ⟨z, _, _, rfl, rfl, by rw [sizeLine_eq]; omega, atI_nat (List.getElem?_eq_getElem lt), k _ a' H1 (List.getElem_mem lt) g1 g2 p1 b1⟩)
end
end Wd
end
section
set_option Elab.async false
set_option linter.all false
set_option maxRecDepth 100000
set_option maxHeartbeats 4000000
/-! Numbers and names in texts. -/
namespace Wt
open PySem TL NumText Builtin.Str PySem.StrLaws
/-- the figures of a word: without a sign - ahead -/
def figL : List Nat → List Nat
  | [] => []
  | c :: r => if c = 45 then r else c :: r
def fig (x : Str) : Str := Txt.removeprefix x "-"
theorem dash : tl ("-" : Str) = [45] := by decide +kernel
theorem zero1 : tl ("0" : Str) = [48] := by decide +kernel
theorem fig_tl (x : Str) : tl (fig x) = figL (tl x) := by
  have hx := len_tl x
  have e : subAt x "-" 0 = true ↔ ∃ r, tl x = 45 :: r := by
    rw [subAt_eq, List.drop_zero, show ("-" : Str).length = 1 from by decide +kernel]
    show ((tl x).take 1 == tl ("-" : Str)) = true ↔ _
    rw [dash]
    cases h : tl x with
    | nil => simp
    | cons c r => simp
  unfold fig Txt.removeprefix
  by_cases h : subAt x "-" 0 = true
  · obtain ⟨r, hr⟩ := e.mp h
    rw [if_pos h]
    have hl : x.length = r.length + 1 := by rw [hx, hr, List.length_cons]
    rw [show ("-" : Str).length = 1 from by decide +kernel]
    show tl (if (x.length - 1 == x.length) = true then x else strSub x 1 x.length) = _
    rw [if_neg (by rw [beq_iff_eq]; omega), tl_strSub_end, hr]
    simp [figL]
  · rw [if_neg h]
    unfold Txt.affix
    cases hr : tl x with
    | nil => rfl
    | cons c r =>
      have hc : c ≠ 45 := fun z => h (e.mpr ⟨r, by rw [hr, z]⟩)
      simp [figL, hc]
def isDig (c : Nat) : Bool := decide (48 ≤ c) && decide (c ≤ 57)
theorem dig128 : ∀ c : Nat, c < 128 → Unicode.isDigit c = isDig c := by decide +kernel
theorem alp128 : ∀ c : Nat, c < 128 → (Unicode.isAlpha c && !(Unicode.isUpper c || Unicode.isTitle c)) = (decide (97 ≤ c) && decide (c ≤ 122)) := by decide +kernel
theorem low128 : ∀ c : Nat, c < 128 → Unicode.isLower c = (decide (97 ≤ c) && decide (c ≤ 122)) := by decide +kernel
theorem all_tl {x : Str} {p : Nat → Bool} : x.cps.all p = (tl x).all p := by rw [← Array.all_toList] <;> rfl
theorem any_tl {x : Str} {p : Nat → Bool} : x.cps.any p = (tl x).any p := by rw [← Array.any_toList] <;> rfl
theorem pos_tl {x : Str} : (decide (x.length > 0)) = !(tl x).isEmpty := by
  rw [len_tl]
  cases tl x <;> simp
theorem digits_ok (f : Str) : (Txt.isascii f && Txt.isdigit f) = true ↔ tl f ≠ [] ∧ AllDigits (tl f) := by
  unfold Txt.isascii Txt.isdigit AllDigits
  rw [all_tl, all_tl, pos_tl]
  simp only [Bool.and_eq_true, List.all_eq_true, decide_eq_true_eq, Bool.not_eq_true', List.isEmpty_eq_false_iff]
  constructor
  · rintro ⟨h1, h2, h3⟩
    refine ⟨h2, fun c hc => ?_⟩
    have := h3 c hc
    rw [dig128 c (h1 c hc)] at this
    simpa [isDig] using this
  · rintro ⟨h1, h2⟩
    refine ⟨fun c hc => ?_, h1, fun c hc => ?_⟩
    · have := h2 c hc
      omega
    · have := h2 c hc
      rw [dig128 c (by omega)]
      simpa [isDig] using this
/-- a word of 1 to 12 letters -/
def nameL (l : List Nat) : Prop := l ≠ [] ∧ l.length ≤ 12 ∧ ∀ c ∈ l, 97 ≤ c ∧ c ≤ 122
theorem names_ok (z : Str) : (Txt.isascii z && (Txt.isalpha z && Txt.islower z)) = true ↔ tl z ≠ [] ∧ ∀ c ∈ tl z, 97 ≤ c ∧ c ≤ 122 := by
  unfold Txt.isascii Txt.isalpha Txt.islower
  rw [all_tl, all_tl, any_tl, any_tl, pos_tl]
  simp only [Bool.and_eq_true, List.all_eq_true, List.any_eq_true, decide_eq_true_eq, Bool.not_eq_true', List.isEmpty_eq_false_iff, List.any_eq_false]
  constructor
  · rintro ⟨h1, ⟨h2, h3⟩, _, h5⟩
    refine ⟨h2, fun c hc => ?_⟩
    have a1 := h3 c hc
    have a2 := h5 c hc
    have a3 := alp128 c (h1 c hc)
    rw [a1] at a3
    have a4 : (Unicode.isUpper c || Unicode.isTitle c) = false := by
      cases e : (Unicode.isUpper c || Unicode.isTitle c) with
      | false => rfl
      | true => exact absurd e a2
    rw [a4] at a3
    have a5 : (decide (97 ≤ c) && decide (c ≤ 122)) = true := a3.symm
    simpa using a5
  · rintro ⟨h1, h2⟩
    have key : ∀ c ∈ tl z, c < 128 ∧ (decide (97 ≤ c) && decide (c ≤ 122)) = true := fun c hc => by
      have := h2 c hc
      exact ⟨by omega, by simpa using this⟩
    refine ⟨fun c hc => (key c hc).1, ⟨h1, fun c hc => ?_⟩, ?_, fun c hc => ?_⟩
    · have a3 := alp128 c (key c hc).1
      rw [(key c hc).2] at a3
      exact (Bool.and_eq_true_iff.mp a3).1
    · obtain ⟨c, r, e⟩ := List.exists_cons_of_ne_nil h1
      have hc : c ∈ tl z := by rw [e]; exact List.mem_cons_self
      exact ⟨c, hc, by rw [low128 c (key c hc).1]; exact (key c hc).2⟩
    · have a3 := alp128 c (key c hc).1
      rw [(key c hc).2] at a3
      have a4 := (Bool.and_eq_true_iff.mp a3).2
      intro e
      rw [e] at a4
      cases a4
/-! ### numbers -/
theorem num_fold : ∀ (cs : List Nat) (a : Nat), 0 < a → AllDigits cs → numL (cs.foldl (fun acc c => acc * 10 + (c - 48)) a) = numL a ++ cs
  | [], a, _, _ => by rw [List.foldl_nil, List.append_nil]
  | c :: r, a, ha, h => by
    have hc := h.head
    rw [List.foldl_cons, num_fold r _ (by omega) h.tail, numL_step (by omega)]
    rw [show (a * 10 + (c - 48)) / 10 = a by omega, show 48 + (a * 10 + (c - 48)) % 10 = c by omega]
    rw [List.append_assoc]
    rfl
/-- figures without a 0 ahead of others -/
def canonL (l : List Nat) : Prop := l ≠ [] ∧ AllDigits l ∧ (l.head? = some 48 → l = [48])
theorem canon_num {l : List Nat} (h : canonL l) : numL (digitsVal l) = l := by
  obtain ⟨h1, h2, h3⟩ := h
  cases l with
  | nil => exact absurd rfl h1
  | cons c r =>
    have hc := h2.head
    by_cases z : c = 48
    · subst z
      have e := h3 rfl
      rw [e]
      decide +kernel
    · unfold digitsVal
      rw [List.foldl_cons, num_fold r _ (by omega) h2.tail, numL_lt (by omega)]
      rw [show 48 + (0 * 10 + (c - 48)) = c by omega]
      rfl
theorem canon_pos {l : List Nat} (h : canonL l) (hz : l ≠ [48]) : 0 < digitsVal l := by
  cases e : digitsVal l with
  | zero =>
    have z := canon_num h
    rw [e] at z
    exact absurd z.symm (by
      have : numL 0 = [48] := by decide +kernel
      rw [this]
      exact hz)
  | succ n => omega
theorem num_canon (n : Nat) : canonL (numL n) := by
  refine ⟨numL_ne n, numL_digits n, ?_⟩
  induction n using Nat.strongRecOn with
  | _ n ih =>
    by_cases h : n < 10
    · rw [numL_lt h]
      intro z
      simp only [List.head?_cons, Option.some.injEq] at z
      rw [z]
    · rw [numL_step (by omega)]
      intro z
      have hne := numL_ne (n / 10)
      obtain ⟨c, r, e⟩ := List.exists_cons_of_ne_nil hne
      rw [e] at z
      have z2 := ih (n / 10) (by omega) (by rw [e]; exact z)
      have z3 : n / 10 = 0 := numL_inj (z2.trans (by decide +kernel))
      omega
def strI (n : Int) : Str := Str.ofString (toString n)
theorem str_nat (n : Nat) : tl (strI (n : Int)) = numL n := tl_num n
theorem str_neg {n : Nat} (h : 0 < n) : tl (strI (-(n : Int))) = 45 :: numL n := by
  obtain ⟨m, rfl⟩ : ∃ m, n = m + 1 := ⟨n - 1, by omega⟩
  have e : toString (-((m + 1 : Nat) : Int)) = "-" ++ toString (((m + 1 : Nat) : Int)) := rfl
  unfold strI
  rw [e]
  have z : Str.ofString ("-" ++ toString (((m + 1 : Nat) : Int))) = ("-" : Str) ++ Str.ofString (toString (((m + 1 : Nat) : Int))) := by
    refine ext_tl ?_
    rw [tl_append]
    show (Str.ofString _).cps.toList = (Str.ofString _).cps.toList ++ (Str.ofString _).cps.toList
    rw [Str.ofString_eq_toList, Str.ofString_eq_toList, Str.ofString_eq_toList]
    simp [String.toList_append]
  rw [z, tl_append, dash, tl_num]
  rfl
theorem str_cases (n : Int) : (∃ m : Nat, n = (m : Int) ∧ tl (strI n) = numL m) ∨ ∃ m : Nat, 0 < m ∧ n = -(m : Int) ∧ tl (strI n) = 45 :: numL m := by
  by_cases h : 0 ≤ n
  · obtain ⟨m, rfl⟩ := Int.eq_ofNat_of_zero_le h
    exact .inl ⟨m, rfl, str_nat m⟩
  · obtain ⟨m, e⟩ := Int.eq_ofNat_of_zero_le (show 0 ≤ -n by omega)
    have hm : 0 < m := by omega
    have e2 : n = -(m : Int) := by omega
    subst e2
    exact .inr ⟨m, hm, rfl, str_neg hm⟩
/-- the word is a number as the document writes it -/
def numOk (w : Str) : Prop := canonL (figL (tl w)) ∧ (figL (tl w) = [48] → tl w = [48])
/-- its value -/
def numV (l : List Nat) : Int := match l with
  | [] => 0
  | c :: r => if c = 45 then -((digitsVal r : Nat) : Int) else ((digitsVal (c :: r) : Nat) : Int)
theorem num_word {w : Str} (h : numOk w) : (canonL (tl w) ∧ figL (tl w) = tl w ∧ numV (tl w) = ((digitsVal (tl w) : Nat) : Int)) ∨
    ∃ r, tl w = 45 :: r ∧ canonL r ∧ r ≠ [48] ∧ figL (tl w) = r ∧ numV (tl w) = -((digitsVal r : Nat) : Int) := by
  obtain ⟨h1, h2⟩ := h
  cases e : tl w with
  | nil =>
    rw [e] at h1
    exact absurd rfl h1.1
  | cons c r =>
    rw [e] at h1 h2
    by_cases hc : c = 45
    · subst hc
      have ef : figL (45 :: r) = r := by simp [figL]
      rw [ef] at h1 h2
      refine .inr ⟨r, rfl, h1, fun z => ?_, ef, by simp [numV]⟩
      have := h2 z
      cases this
    · have ef : figL (c :: r) = c :: r := by simp [figL, hc]
      rw [ef] at h1
      exact .inl ⟨h1, ef, by simp [numV, hc]⟩
theorem num_int {w : Str} (h : numOk w) (hl : w.length ≤ 4300) : intText? w = some (numV (tl w)) := by
  rcases num_word h with ⟨h1, _, e⟩ | ⟨r, hr, h1, _, _, e⟩
  · rw [e]
    exact intText_digits h1.2.1 h1.1 hl
  · rw [e]
    exact intText_neg hr h1.2.1 h1.1 hl
theorem num_back {w : Str} (h : numOk w) : w = strI (numV (tl w)) := by
  refine ext_tl ?_
  rcases num_word h with ⟨h1, _, e⟩ | ⟨r, hr, h1, hz, _, e⟩
  · rw [e, str_nat, canon_num h1]
  · rw [e, str_neg (canon_pos h1 hz), canon_num h1, hr]
theorem num_str (n : Int) : numOk (strI n) ∧ numV (tl (strI n)) = n := by
  rcases str_cases n with ⟨m, rfl, e⟩ | ⟨m, hm, rfl, e⟩
  · have c := num_canon m
    have z : ∃ a r, numL m = a :: r ∧ a ≠ 45 := by
      obtain ⟨a, r, q⟩ := List.exists_cons_of_ne_nil c.1
      refine ⟨a, r, q, ?_⟩
      have := c.2.1 a (by rw [q]; exact List.mem_cons_self)
      omega
    obtain ⟨a, r, q, ha⟩ := z
    have ef : figL (numL m) = numL m := by rw [q]; simp [figL, ha]
    refine ⟨⟨by rw [e, ef]; exact c, fun z => by rw [e, ef] at z; rw [e]; exact z⟩, ?_⟩
    have v := numL_val m
    rw [e]
    rw [q] at v ⊢
    simp only [numV, ha, if_false]
    rw [v]
  · have c := num_canon m
    have ef : figL (45 :: numL m) = numL m := by simp [figL]
    refine ⟨⟨by rw [e, ef]; exact c, fun z => ?_⟩, ?_⟩
    · rw [e, ef] at z
      have : m = 0 := numL_inj (z.trans (by decide +kernel))
      omega
    · rw [e]
      simp only [numV, if_true]
      rw [numL_val]
theorem fig_str (n : Int) : (figL (tl (strI n))).length = (numL n.natAbs).length := by
  rcases str_cases n with ⟨m, rfl, e⟩ | ⟨m, hm, rfl, e⟩
  · obtain ⟨a, r, q⟩ := List.exists_cons_of_ne_nil (numL_ne m)
    have ha : a ≠ 45 := by
      have := numL_digits m a (by rw [q]; exact List.mem_cons_self)
      omega
    rw [e, show (m : Int).natAbs = m from rfl, q]
    simp [figL, ha]
  · rw [e, show (-(m : Int)).natAbs = m by omega]
    simp [figL]
theorem len_str (n : Int) : (strI n).length ≤ (numL n.natAbs).length + 1 := by
  rw [len_tl]
  rcases str_cases n with ⟨m, rfl, e⟩ | ⟨m, hm, rfl, e⟩
  · rw [e, show (m : Int).natAbs = m from rfl]
    omega
  · rw [e, show (-(m : Int)).natAbs = m by omega, List.length_cons]
    omega
theorem strI_inj {m n : Int} (h : strI m = strI n) : m = n := by
  rw [← (num_str m).2, ← (num_str n).2, h]
theorem free_str (n : Int) : 32 ∉ tl (strI n) := by
  rcases str_cases n with ⟨m, rfl, e⟩ | ⟨m, hm, rfl, e⟩
  · rw [e]
    exact numL_free (by omega)
  · rw [e]
    intro h
    rcases List.mem_cons.mp h with h | h
    · cases h
    · exact numL_free (by omega) h
end Wt
end
section
set_option Elab.async false
set_option linter.all false
set_option maxRecDepth 100000
set_option maxHeartbeats 4000000
/-! Entries in texts. -/
namespace Wt
open PySem TL NumText Builtin.Str PySem.StrLaws
theorem blank : tl (" " : Str) = [32] := by decide +kernel
theorem blank_k : (" " : Str).cps.all (· < 256) = true := by decide +kernel
theorem spl_ne : ∀ (l acc : List Nat), spl [32] 0 acc l ≠ []
  | [], acc => by rw [spl_nil]; simp
  | c :: r, acc => by
    by_cases h : pre [32] (c :: r) = true
    · rw [spl_hit h]
      simp
    · rw [spl_miss (by simpa using h)]
      exact spl_ne r _
theorem joinL_cons (S p : List Nat) {q : List (List Nat)} (h : q ≠ []) : joinL S (p :: q) = p ++ (S ++ joinL S q) := by
  obtain ⟨a, r, rfl⟩ := List.exists_cons_of_ne_nil h
  rfl
theorem join_spl : ∀ (l acc : List Nat), joinL [32] (spl [32] 0 acc l) = acc ++ l
  | [], acc => by rw [spl_nil, List.append_nil]; rfl
  | c :: r, acc => by
    by_cases h : pre [32] (c :: r) = true
    · rw [spl_hit h]
      have hc : c = 32 := by
        unfold pre at h
        simpa using h
      show joinL [32] (acc :: spl [32] 0 [] r) = _
      rw [joinL_cons _ _ (spl_ne r []), join_spl r []]
      simp [hc]
    · rw [spl_miss (by simpa using h), join_spl r _, List.append_assoc]
      rfl
def words (z : Str) : List Str := Txt.split z " "
theorem words_tl (z : Str) : (words z).map tl = spl [32] 0 [] (tl z) := by
  have e := split_spl z " " (by rw [blank]; simp) (kind_ok blank_k)
  rw [blank] at e
  exact e
theorem words_ne (z : Str) : words z ≠ [] := fun h => by
  have e := words_tl z
  rw [h] at e
  exact spl_ne _ _ e.symm
theorem words_join (z : Str) : Txt.join " " (words z) = z := by
  refine ext_tl ?_
  rw [join_eq, tl_join, blank, words_tl, join_spl, List.nil_append]
theorem joinL_len (S : List Nat) : ∀ l : List (List Nat), ∀ p ∈ l, p.length ≤ (joinL S l).length
  | [], p, h => by cases h
  | [a], p, h => by
    rw [List.mem_singleton.mp h]
    exact Nat.le_refl _
  | a :: b :: r, p, h => by
    rw [joinL_cons S a (by simp), List.length_append, List.length_append]
    rcases List.mem_cons.mp h with rfl | h
    · omega
    · have := joinL_len S (b :: r) p h
      omega
theorem words_len {z w : Str} (h : w ∈ words z) : w.length ≤ z.length := by
  have e := congrArg tl (words_join z)
  rw [join_eq, tl_join] at e
  have := joinL_len (tl " ") _ (tl w) (List.mem_map.mpr ⟨w, h, rfl⟩)
  rw [e] at this
  rw [len_tl w, len_tl z]
  exact this
theorem spl_count : ∀ (l acc : List Nat), (spl [32] 0 acc l).length ≤ l.length + 1
  | [], acc => by rw [spl_nil]; simp
  | c :: r, acc => by
    by_cases h : pre [32] (c :: r) = true
    · rw [spl_hit h]
      have := spl_count r []
      show (acc :: spl [32] 0 [] r).length ≤ _
      rw [List.length_cons, List.length_cons]
      omega
    · rw [spl_miss (by simpa using h)]
      have := spl_count r (acc ++ [c])
      rw [List.length_cons]
      omega
theorem words_count (z : Str) : (words z).length ≤ z.length + 1 := by
  have := spl_count (tl z) []
  rw [← words_tl, List.length_map, ← len_tl] at this
  exact this
def KS : List Str := ["day", "float", "zoned", "fixed"]
def fitsN (dg : Option Nat) (n : Int) : Prop := ∀ d, dg = some d → (numL n.natAbs).length ≤ d
/-- the words of an entry -/
structure RdW (dg : Option Nat) (ws : List Str) (k : Str) (a b : Int) (o : Option Str) : Prop where
  sp : ws = [k, strI a, "to", strI b] ++ o.toList
  kin : k ∈ KS
  zo : o.isSome = true ↔ k = "zoned"
  fa : fitsN dg a
  fb : fitsN dg b
  le : a ≤ b
  nm : ∀ n, o = some n → nameL (tl n)
def mkT (k : Str) (a b : Int) (o : Option Str) : Str := Txt.join " " ([k, strI a, "to", strI b] ++ o.toList)
theorem RdW.text {dg : Option Nat} {z k : Str} {a b : Int} {o : Option Str} (h : RdW dg (words z) k a b o) : z = mkT k a b o := by
  rw [← words_join z, h.sp]
  rfl
theorem ks_free {k : Str} (h : k ∈ KS) : 32 ∉ tl k := by
  have : ∀ x ∈ KS, 32 ∉ tl x := by decide +kernel
  exact this k h
theorem to_free : 32 ∉ tl ("to" : Str) := by decide +kernel
theorem mk_words {k : Str} {a b : Int} {o : Option Str} (hk : k ∈ KS) (hn : ∀ n, o = some n → nameL (tl n)) : words (mkT k a b o) = [k, strI a, "to", strI b] ++ o.toList := by
  refine split_join blank blank_k (by simp) fun p hp => ?_
  rcases List.mem_append.mp hp with hp | hp
  · simp only [List.mem_cons, List.not_mem_nil, or_false] at hp
    rcases hp with rfl | rfl | rfl | rfl
    · exact ks_free hk
    · exact free_str a
    · exact to_free
    · exact free_str b
  · cases o with
    | none => cases hp
    | some n =>
      have e : p = n := by simpa using hp
      subst e
      intro z
      have := (hn p rfl).2.2 32 z
      omega
theorem mk_reads {dg : Option Nat} {k : Str} {a b : Int} {o : Option Str} (hk : k ∈ KS) (hz : o.isSome = true ↔ k = "zoned") (ha : fitsN dg a) (hb : fitsN dg b) (hl : a ≤ b) (hn : ∀ n, o = some n → nameL (tl n)) :
    RdW dg (words (mkT k a b o)) k a b o := ⟨mk_words hk hn, hk, hz, ha, hb, hl, hn⟩
theorem RdW.uniq {dg dg' : Option Nat} {ws : List Str} {k k' : Str} {a a' b b' : Int} {o o' : Option Str} (h : RdW dg ws k a b o) (h' : RdW dg' ws k' a' b' o') : k = k' ∧ a = a' ∧ b = b' ∧ o = o' := by
  have e := h.sp.symm.trans h'.sp
  simp only [List.cons_append, List.nil_append, List.cons.injEq, true_and] at e
  obtain ⟨e1, e2, e3, e4⟩ := e
  refine ⟨e1, strI_inj e2, strI_inj e3, ?_⟩
  cases o <;> cases o' <;> simp_all
theorem mk_inj {k k' : Str} {a a' b b' : Int} {o o' : Option Str} (hk : k ∈ KS) (hn : ∀ n, o = some n → nameL (tl n)) (hk' : k' ∈ KS) (hn' : ∀ n, o' = some n → nameL (tl n)) (e : mkT k a b o = mkT k' a' b' o') :
    k = k' ∧ a = a' ∧ b = b' ∧ o = o' := by
  have h := congrArg words e
  rw [mk_words hk hn, mk_words hk' hn'] at h
  simp only [List.cons_append, List.nil_append, List.cons.injEq, true_and] at h
  obtain ⟨e1, e2, e3, e4⟩ := h
  refine ⟨e1, strI_inj e2, strI_inj e3, ?_⟩
  cases o <;> cases o' <;> simp_all
def fits (dg : Option Nat) (w : Str) : Prop := ∀ d, dg = some d → (figL (tl w)).length ≤ d
open Classical in
/-- what a word tells -/
noncomputable def numR (dg : Option Nat) (w : Str) : Option Int := if numOk w ∧ fits dg w then some (numV (tl w)) else none
theorem numR_some {dg : Option Nat} {w : Str} {n : Int} (h : numR dg w = some n) : w = strI n ∧ fitsN dg n := by
  unfold numR at h
  split at h
  · rename_i q
    have e := Option.some.inj h
    have b := num_back q.1
    rw [e] at b
    refine ⟨b, fun d hd => ?_⟩
    have := q.2 d hd
    rw [b, fig_str] at this
    exact this
  · cases h
theorem numR_str {dg : Option Nat} {n : Int} (h : fitsN dg n) : numR dg (strI n) = some n := by
  obtain ⟨h1, h2⟩ := num_str n
  unfold numR
  rw [if_pos ⟨h1, fun d hd => by rw [fig_str]; exact h d hd⟩, h2]
end Wt
end
section
set_option Elab.async false
set_option linter.all false
set_option maxRecDepth 100000
set_option maxHeartbeats 1000000
namespace Wd
open PySem PySem.Spec PyProof.Rows L2 Wt TL NumText
/-- what the law of pieces looks up, whichever def reads it -/
structure Tx (K : PySem.W.Frag) (mg : Str → Option Value) : Prop extends TxtP mg where
  str : mg "str" = none
  isinstance : mg "isinstance" = none
  range : mg "range" = none
  bool : mg "bool" = none
  enumerate : mg "enumerate" = none
  tuple : mg "tuple" = none
  any : mg "any" = none
  all : mg "all" = none
  sorted : mg "sorted" = none
  min : mg "min" = none
  max : mg "max" = none
  abs : mg "abs" = none
  TURNED : mg "TURNED" = some (.ref (He.ga K "TURNED"))
  MEMBERS : mg "MEMBERS" = some (.ref (He.ga K "MEMBERS"))
  Days : mg "Days" = some (.ref (He.ga K "Days"))
  cl : Cls K (He.ga K "Days")
  n1 : NoAttr K (He.ga K "Days") "pieces"
  n2 : NoAttr K (He.ga K "Days") "_ones"
  n3 : NoAttr K (He.ga K "Days") "_ups"
  n4 : NoAttr K (He.ga K "Days") "_downs"
  n5 : NoAttr K (He.ga K "Days") "_everys"
  n6 : NoAttr K (He.ga K "Days") "_steps"
end Wd
end
section
set_option Elab.async false
set_option linter.all false
set_option maxRecDepth 100000
set_option maxHeartbeats 2000000
set_option pp.maxSteps 600
/-! ### d.get(k) of a known dict; C.m(..), m a static method -/
namespace Wd
open PySem PySem.Spec PyProof.Rows L2 ClX
/-- what a known dict holds at a text -/
def KGet (K : PySem.W.Frag) (w : World) (a : Addr) (x : Str) (o : Option V) : Prop :=
  ∃ es n u, K.lookup a = some ⟨.type "dict", none, .dict es n, #[]⟩ ∧ PySem.W.KeysLit w.params es.toList ∧ (a == sysModules) = false ∧ PySem.W.nsIn K a x = some u ∧ RelO o u
def KDic (K : PySem.W.Frag) (w : World) (a : Addr) : Prop := ∃ es n, K.lookup a = some ⟨.type "dict", none, .dict es n, #[]⟩ ∧ PySem.W.KeysLit w.params es.toList ∧ (a == sysModules) = false
def tKGet (K : PySem.W.Frag) (w : World) (td ty : TE) : TE := fun σ H Q => td σ H fun x H1 => ∃ a, x = .ref a ∧ KDic K w a ∧ ty σ H1 fun y H2 => ∃ z o, y = .str z ∧ KGet K w a z o ∧ Q (o.getD .non) H2
section
variable {X : Cx} {o e : Expr} {apos cpos : Pos} {td ty : TE}
theorem pe_kget (ho : PE X o td) (he : PE X e ty) (m : M1 X o "get" apos e cpos) : PE X (.Call (.Attribute o "get" apos) [e] [] cpos) (tKGet X.K X.w td ty) := by
  refine ⟨fun pins s σ H Q I h => ?_⟩
  refine wpAny_Call_method m.base m.few m.line PySem.F.plainAttrs_dict PySem.F.slot_dict_get PySem.F.type_dict_get (thn (ho.run pins s σ H _ I h) fun u s1 ⟨x, H1, I1, rx, a, ex, ⟨es, n, hl, hk, low⟩, q1⟩ => ?_)
  subst ex
  obtain rfl : u = Value.ref a := rx
  have hm := PySem.W.mapOf_K (prog := X.prog) (w := X.w) I1.kIn hl hk
  refine ⟨hm.typeIs, fun b q => ?_, ?_⟩
  · cases q
    exact ⟨_, I1.kIn _ _ hl, rfl⟩
  rw [m.trees]
  refine Calls.callWith_builtin rfl (Calls.evalArgs_plain (Calls.spliced_cons (thn (he.run pins s1 σ H1 _ I1 q1) fun iv s2 ⟨y, H2, I2, ry, z, ov, ey, ⟨es2, n2, u2, hl2, hk2, low2, hn2, r2⟩, q2⟩ => Calls.spliced_nil ?_)))
  subst ey
  obtain ⟨t, rfl⟩ := (show ∃ t, iv = Value.str z t from ry)
  have hm2 := PySem.W.mapOf_K (prog := X.prog) (w := X.w) I2.kIn hl2 hk2
  refine call_meetsIn PySem.F.slot_dict_get hm2.typeIs PySem.F.entry_dict_get (PySem.F.args_dict_get_2 _ _) (meets_dict_get _ a (strKind_is X.prog X.w z t) low2) ⟨_, hm2, ?_⟩
  rw [PySem.W.find_K hl2 hn2]
  exact ⟨ov.getD .non, H2, I2.tok _, r2.getD (show L2.RelV V.non Value.none from rfl), q2⟩
end
/-- C.m is a static method: its record at p, its def at g -/
structure SMet (K : PySem.W.Frag) (C : Addr) (mc : Value) (m : Str) (p g : Addr) : Prop where
  at_ : PySem.W.findCls K (.ref C) mc m = some (.get (.builtin "staticmethod.__get__") (.ref p) .none (.ref C))
  rc : ∃ rest, PySem.W.recIn K p "staticmethod" = some (.ref g :: rest)
/-- C.m(e, ..) -/
def tSMeth (C : Addr) (sp : Sp) (E : XK) (ta : TE) (t : TA) : TE := fun σ H Q => ta σ H fun x H1 => x = .ref C ∧ t σ H1 fun vs H2 => sp vs H2 Q E
section
variable {X : Cx} {CX : CXT} {k : Nat} {C p g : Addr} {mc : Value} {sp : Sp} {E : XK} {o e : Expr} {es : List Expr} {m : Str} {pos apos : Pos} {ta : TE} {t : TA} {pl : Sem Bool} {fd : FuncData} {ps : List Str}
theorem pe_smeth (he : PE X o ta) (r : CRead X.K C mc) (c : SMet X.K C mc m p g) (F : FnOk X.prog X.w X.K X.mg X.base CX k g fd ps sp) (hk : PySem.W.keepIn X.K (.ref g) = true) (hb : Binds X.K fd ps []) (hr : Room k X.A) (hx : Passes CX X E) (ha : PA X (e :: es) t)
    (hst : starEach (e :: es) X.env = (false, eval e X.env) :: starEach es X.env := by rfl) (hpl : (backTo pos (starEach es X.env)).any (·.1) = false := by rfl)
    (ht : eval (.Call (.Attribute o m apos) (e :: es) [] pos) X.env = (do
      let ov ← eval o X.env
      standAt apos.atName
      let (f, first) ← holding [ov] (getMethod ov m pl)
      callWith pos f first (backTo pos (starEach (e :: es) X.env)) (backToKw pos (keywordEach [] X.env))) := by rfl) :
    PE X (.Call (.Attribute o m apos) (e :: es) [] pos) (tSMeth C sp E ta t) := by
  refine ⟨fun pins s σ H Q I h => ?_⟩
  refine PySem.W.methodCall_KW (pl := pl) (thn (he.run pins s σ H _ I h) fun u s1 ⟨x, H1, I1, rx, ex, q⟩ => ?_) ht
  subst ex
  obtain rfl : u = Value.ref C := rx
  obtain ⟨rest, hp⟩ := c.rc
  refine PySem.W.method_cls I1.kIn r.ga (PySem.W.cls_bind I1.kIn r.rd c.at_ (wpAny_call (PySem.W.sm_get (s := { s1 with toks := s1.toks + 1 }) I1.kIn hp (PySem.W.handed_on rfl ?_))))
  have I2 : Inv X pins σ H1 { s1 with toks := s1.toks + 1 } := I1.tok _
  refine PySem.W.callWith_K (h₀ := X.base) I2.ok.mod.kin hk (thn (ha.run pos pins _ σ H1 _ I2 q) fun us s3 ⟨vs, H2, I3, rv, q2⟩ => ⟨I3.kIn, ?_⟩) hst hpl
  exact run_fn (dvs := []) (ds := []) F hr hb .nil hx I3 rv (by rw [List.append_nil]; exact q2)
end
end Wd
end
section
set_option Elab.async false
set_option linter.all false
set_option maxRecDepth 100000
set_option maxHeartbeats 1000000
set_option pp.maxSteps 600
/-! A dict comprehension that a name of the def takes; the walk of a dict comprehension in the walks' words. -/
namespace Wd
open PySem PySem.Spec PyProof.Rows L2
section
variable {X : Cx}
theorem swD_true {kx vx : Expr} {gs : List Comprehension} {scope : Scope} {pos py : Pos} {y : Str} {l : Nat} {env : Env} (hk : env.scope.kind = .function) (hy : env.scope.names.lookup y = some .local) (hl : (py.line == pos.line) = true)
    (ha : (scope.names.any fun (n, k) => n == y && (k == .local || k == .cell)) = false) : swapsWith (.DictComp kx vx gs scope pos) (some (.Name y py)) l env = pure true := by
  have ky : env.kindOf y = some .local := hy
  have hb : env.blockKind = .function := by unfold Env.blockKind; rw [hk]; rfl
  unfold swapsWith
  simp only [hb, ky, ha, Expr.pos, hl]
  rfl
theorem ps_setDc {i : Nat} {y : Str} {py : Pos} {kx vx tg iter : Expr} {ifs : List Expr} {scope : Scope} {own : List (Str × Nat)} {pos spos : Pos} {wi : TI} {g : TG} {tt : TT} {tk tv : TE} (hc : X.calm = true) (hN : X.N.Nodup) (hy : X.N[i]? = some y) (hyl : X.env.scope.names.lookup y = some .local)
    (hsw : swapsWith (.DictComp kx vx [⟨tg, iter, ifs, 0⟩] scope pos) (some (.Name y py)) spos.line X.env = pure true) (hi : PI X tg iter wi) (ok : BlkOk X.N X.env.scope scope own)
    (hg : ∀ (s : Shared) (H : Hp) (C : Addr) (cl : List (Str × Addr)) (fp : List Addr), PG (X.blk s H scope (compEnvC scope cl C X.env) fp) tg g) (ht : ∀ (s : Shared) (H : Hp) (C : Addr) (cl : List (Str × Addr)) (fp : List Addr), PTs (X.blk s H scope (compEnvC scope cl C X.env) fp) ifs tt)
    (hk : ∀ (s : Shared) (H : Hp) (C : Addr) (cl : List (Str × Addr)) (fp : List Addr), PE (X.blk s H scope (compEnvC scope cl C X.env) fp) kx tk)
    (he : ∀ (s : Shared) (H : Hp) (C : Addr) (cl : List (Str × Addr)) (fp : List Addr), PE (X.blk s H scope (compEnvC scope cl C X.env) fp) vx tv) (hs : ∀ x, foldedSetIterable iter X.env x = pure x := by intro _; rfl) :
    PS X (.Assign [.Name y py] (.DictComp kx vx [⟨tg, iter, ifs, 0⟩] scope pos) spos) (tAsg (tDc wi g tt tk tv (own.map (·.2))) (gName i)) := by
  refine ⟨fun pins s σ H D I h => ?_⟩
  rw [exec_Assign_Name_used _ _ _ _ hsw]
  refine wpAny_bind (wpAny_standAt (wpAny_bind ?_))
  show wpAny _ X.A (do let _ ← comprehension (.DictComp kx vx [⟨tg, iter, ifs, 0⟩] scope pos) scope X.env (firstIterPos [⟨tg, iter, ifs, 0⟩] pos) newDict false (eval iter X.env) (some (assign (.Name y py) X.env))) _ _ s
  have h : tDc wi g tt tk tv (own.map (·.2)) σ H (fun x H1 => gName i x σ H1 D.nx) := h
  refine wpAny_bind (thn (dc_core (Qf := fun _ s' => SP X pins D .next s') hc hN I hi ok hg ht hk he hs h fun L C s' m H' I' q hn f => ?_) fun _ s' hq => wpAny_pure (wpAny_pure hq))
  show wpAny _ _ (assign (.Name y py) X.env (.ref L)) _ _ _
  refine wpAny_assign_Name (store_ok2 (v := V.ref L) I' hN hy (.inl hyl) rfl (fun s2 I2 ⟨a, sb, ha⟩ => ?_) (.inr hyl))
  obtain ⟨f0, f1, f2, f3, f4, f5⟩ := f
  have haC : C ≠ a := by
    rcases ha with z | z
    · rw [z]; exact f1
    · exact fun e => f4 y a z e.symm
  refine ⟨m, hn.sameBut sb haC, fun h3 sb3 => ?_⟩
  exact ⟨_, H', I2.turned (t' := s2.toks) (fun b o hb e => (sb3.2 b hb).trans e) f0 f1 f3 f4 f5, q⟩
end
theorem nd_idx {α : Type} : ∀ {xs : List α} {i j : Nat} {x : α}, xs.Nodup → xs[i]? = some x → xs[j]? = some x → i = j
  | [], i, _, _, _, h, _ => by simp at h
  | y :: ys, 0, 0, _, _, _, _ => rfl
  | y :: ys, 0, j + 1, x, nd, h, h2 => by
    simp at h
    subst h
    rw [List.getElem?_cons_succ] at h2
    exact absurd (List.mem_of_getElem? h2) (List.nodup_cons.mp nd).1
  | y :: ys, i + 1, 0, x, nd, h, h2 => by
    simp at h2
    subst h2
    rw [List.getElem?_cons_succ] at h
    exact absurd (List.mem_of_getElem? h) (List.nodup_cons.mp nd).1
  | y :: ys, i + 1, j + 1, x, nd, h, h2 => by
    rw [List.getElem?_cons_succ] at h h2
    rw [nd_idx (List.nodup_cons.mp nd).2 h h2]
theorem nd_get {α : Type} {xs : List α} (nd : xs.Nodup) {i j : Nat} {hi : i < xs.length} {hj : j < xs.length} (e : xs[i] = xs[j]) : i = j :=
  nd_idx nd (List.getElem?_eq_getElem hi) (by rw [e]; exact List.getElem?_eq_getElem hj)
/-- tuple(xs), xs a list or a tuple -/
def rTupOf (K : PySem.W.Frag) : List V → Hp → VK → Prop := fun xs H Q => ∃ p ys, xs = [.ref p] ∧ ((SqL K H p ys ∧ ∀ l, H l = none → Q (.ref l) (upd H l (.tup ys))) ∨ (SqT K H p ys ∧ Q (.ref p) H))
theorem call_tuple_ofR {X : Cx} : CallR X (.type "tuple") (rTupOf X.K) := call_tuple_of
section
variable {J : It} {n : Nat} {G : Hp → Prop} {Y : Nat → Hp → V → Hp → Prop}
theorem dc_it (w : Walk J n G Y) {g : TG} {tt : TT} {tk tv : TE} {vs : List Nat} {σ : L2.St} {H1 : Hp} {D : Addr} {Qd : Hp → Prop} (Pv : Nat → Hp → Prop) (h0 : Pv 0 (upd H1 D (.dK []))) (hG : ∀ i H, i ≤ n → Pv i H → G H)
    (hs : ∀ i x H H', i < n → Pv i H → Y i H x H' → g x (wipe σ vs) H' fun σ2 H2 => wipe σ2 vs = wipe σ vs ∧ tt σ2 H2 fun b H3 =>
      if b = true then tk σ2 H3 fun y H4 => tv σ2 H4 fun z H5 => ∃ kvs k, y = kV k ∧ H5 D = some (.dK kvs) ∧ kvs.length < sizeLine ∧ Pv (i + 1) (upd H5 D (.dK (putK kvs k z))) else Pv (i + 1) H3) (hd : ∀ H, Pv n H → Qd H) :
    ∃ W : Nat → Nat → Hp → Prop, (∃ m, W 0 m (upd H1 D (.dK []))) ∧ ∀ i m H, W i m H →
      (J.stop i H ∧ Qd H) ∨ (J.go i H ∧ ∃ Nx : Hp → Prop, (∀ H', Nx H' → ∃ m', m' < m ∧ W (i + 1) m' H') ∧ ∀ x H', J.yld i H x H' → g x (wipe σ vs) H' fun σ2 H2 => wipe σ2 vs = wipe σ vs ∧ tt σ2 H2 fun b H3 =>
        if b = true then tk σ2 H3 fun y H4 => tv σ2 H4 fun z H5 => ∃ kvs k, y = kV k ∧ H5 D = some (.dK kvs) ∧ kvs.length < sizeLine ∧ Nx (upd H5 D (.dK (putK kvs k z))) else Nx H3) := by
  refine ⟨fun i m H => m = n - i ∧ i ≤ n ∧ Pv i H, ⟨n, by simp, Nat.zero_le _, h0⟩, ?_⟩
  rintro i m H ⟨rfl, hi, p⟩
  have q := hG i H hi p
  by_cases hlt : i < n
  · refine .inr ⟨w.goes i H hlt q, Pv (i + 1), fun H' p' => ⟨n - (i + 1), by omega, rfl, hlt, p'⟩, fun x H' y => hs i x H H' hlt p (w.yields i H x H' hlt q y)⟩
  · have e : i = n := by omega
    subst e
    exact .inl ⟨w.stops H q, hd H p⟩
end
end Wd
end
section
set_option Elab.async false
set_option linter.all false
set_option maxRecDepth 100000
set_option maxHeartbeats 1000000
set_option pp.maxSteps 600
/-! A dict written with one entry whose key is a tuple in which None may stand. -/
namespace Wd
open PySem PySem.Spec PyProof.Rows L2
section
variable {prog : Program} {w : World} {K : Type} [DecidableEq K] {knd : HeapKind prog w K} {A : Around} {E : Value → Shared → Prop} {s : Shared} {env : Env}
theorem wpAny_Dict_walkO {keys : List (Option Expr)} {values : List Expr} {pos : Pos} {Q : Value → Shared → Prop} (hu : knd.room A)
    (hall : keys.all (·.isSome) = true) (hl : keys.length = values.length) (h0 : keys ≠ []) (hlen : keys.length ≤ 15)
    (h : wpAny (model prog w) A (evalPairs (pairTrees keys values env pos)) (fun vs s₁ => ∃ ps, CarriesH knd s₁.heap vs ps ∧ s₁.heap.DictOfH knd s.heap.objs.size [] ∧
      ∀ h' tk, h'.DictOfH knd s.heap.objs.size (storedAllH [] ps) → Heap.SameBut s.heap.objs.size s₁.heap h' → Q (.ref s.heap.objs.size) { s₁ with heap := h', toks := tk }) E
      { s with heap := s.heap.push { cls := .type "dict", data := .dict #[] } }) :
    wpAny (model prog w) A (eval (.Dict keys values pos) env) Q E s := by
  have hn := pairTrees_length keys values env pos hall hl
  have hne : pairTrees keys values env pos ≠ [] := by
    intro he
    rw [he] at hn
    exact h0 (List.length_eq_zero_iff.mp hn.symm)
  rw [arm_eval_Dict, zip_pairTrees keys values env pos hall hl, dictDisplay_pairs _ hne (by rw [hn]; omega)]
  exact wpAny_bind (wpAny_standAt (wpAny_bind (wpAny_subDictH (knd := knd) (Q := fun d s' => wpAny (model prog w) A (pure (Value.ref d)) Q E s') hu (by rw [hn]; exact hlen)
    (wpAny_mono h (fun vs s₁ h₁ => by obtain ⟨ps, hc, hm, hq⟩ := h₁; exact ⟨ps, hc, hm, fun h' tk a b => wpAny_pure (hq h' tk a b)⟩) fun _ _ e => e))))
end
section
variable {X : Cx} {k v : Expr} {tk tv : TE} {pos : Pos}
/-- {k: v}, k a tuple of texts, numbers, None; the new dict stands empty while the pair is made -/
def tDisp1O (P : Program) (w : World) (tk tv : TE) : TE := fun σ H Q => ∀ p, H p = none → tPairs [(tk, tv)] σ (upd H p (odO P w p [])) fun ps H3 => H3 p = some (odO P w p []) ∧ ∃ b ks z, ps = [(.ref b, z)] ∧ H3 b = some (.tup (ks.map oKV)) ∧ Q (.ref p) (upd H3 p (odO P w p [(ks, b, z)]))
theorem pe_disp1O (hu : X.A.units + 1 < cLine) (hk : PE X k tk) (hv : PE X v tv) : PE X (.Dict [some k] [v] pos) (tDisp1O X.prog X.w tk tv) := by
  refine ⟨fun pins s σ H Q I q => ?_⟩
  have hn := I.hok.fresh (Nat.le_refl s.heap.objs.size)
  have hsys : (s.heap.objs.size == sysModules) = false := beq_eq_false_iff_ne.mpr (Ne.symm (Nat.ne_of_lt I.big))
  have I1 := I.laid (a := s.heap.objs.size) (o := odO X.prog X.w s.heap.objs.size []) (h' := s.heap.push { cls := .type "dict", data := .dict #[] }) (t' := s.toks) (fun _ _ q => Heap.get?_push_of_some _ q) (Nat.le_refl _)
    (od_ok ⟨hsys, Nat.zero_le _, [], .nil, _, #[], 0, Heap.get?_push_size _ rfl, ⟨rfl, rfl, rfl⟩, rfl, rfl, List.nodup_nil⟩)
  refine wpAny_Dict_walkO (knd := tupleKind (noneKind X.prog X.w)) (show X.A.units < cLine by omega) rfl rfl (by simp) (by simp) (thn ((pps_cons hk hv pps_nil).run pins _ σ _ _ I1 (q _ hn)) fun ws s2 ⟨ps, H2, I2, rel, e, b, ks, z, ep, hb, q2⟩ => ?_)
  subst ep
  cases rel with
  | @cons p1 w1 ps1 ws1 h1 t1 =>
  cases t1
  obtain ⟨k1, v1⟩ := w1
  obtain ⟨e1, e2⟩ := h1
  obtain rfl : k1 = Value.ref b := e1
  have d0 : OD X.prog X.w H2 s.heap.objs.size [] := ⟨e, fun x hx => by cases hx⟩
  obtain ⟨_, _, xs, rel0, dd0⟩ := d0.of I2.hok
  cases rel0
  refine ⟨[(ks, b, v1)], ⟨rfl, rfl, oKey_of I2.hok hb, trivial⟩, dd0, fun h' tk dd' hs' => ⟨.ref s.heap.objs.size, _, d_write (t' := tk) I2 (by rw [e]; exact True.intro) hs' ?_ (od_ok ?_), rfl, q2⟩⟩
  · obtain ⟨o, _, _, ho, _⟩ := dd'
    exact ⟨o, ho⟩
  · obtain ⟨o, es, ep, ho, h2, h3, h4, _, h5⟩ := dd'
    have e0 : storedAllH [] [(ks, b, v1)] = [(ks, b, v1)] := by
      show storedH [] ks b v1 = _
      rw [storedH_new rfl]
      rfl
    rw [e0] at h4 h5
    exact ⟨hsys, by show 1 ≤ sizeLine; decide, _, .cons ⟨rfl, rfl, e2⟩ .nil, o, es, ep, ho, h2, h3, h4, h5⟩
/-- the same, the program and the world told -/
theorem pe_disp1OP {P : Program} {w : World} (hp : X.prog = P) (hw : X.w = w) (hu : X.A.units + 1 < cLine) (hk : PE X k tk) (hv : PE X v tv) : PE X (.Dict [some k] [v] pos) (tDisp1O P w tk tv) := by
  subst hp hw
  exact pe_disp1O hu hk hv
end
section
variable {X : Cx} {o i value : Expr} {td ty tv : TE} {pos pos' : Pos} {P : Program} {w : World}
theorem pc_onotinP (hp : X.prog = P) (hw : X.w = w) (hu : X.A.units + 1 < cLine) (hi : PE X i ty) (ho : PE X o td) : L2.PC X .NotIn i o (tONotIn P w ty td) := by
  subst hp hw
  exact pc_onotin hu hi ho
theorem pe_ogetP (hp : X.prog = P) (hw : X.w = w) (hu : X.A.units + 1 < cLine) (ho : PE X o td) (hi : PE X i ty) (hs : NoSl i) : PE X (.Subscript o i pos) (tOGet P w td ty) := by
  subst hp hw
  exact pe_oget hu ho hi hs
theorem ps_oputP (hp : X.prog = P) (hw : X.w = w) (hu : X.A.units + 1 < cLine) (ho : PE X o td) (hi : PE X i ty) (hv : PE X value tv) (hs : swapsWith value (some (.Subscript o i pos')) pos.line X.env = pure false) :
    PS X (.Assign [.Subscript o i pos'] value pos) (sOPut P w td ty tv) := by
  subst hp hw
  exact ps_oput hu ho hi hv hs
end
end Wd
end
section
set_option Elab.async false
set_option linter.all false
set_option maxRecDepth 100000
set_option maxHeartbeats 1000000
/-! enumerate(tuple). -/
namespace Wd
open PySem PySem.Spec PyProof.Rows L2
set_option maxHeartbeats 1000000 in
theorem meets_enumerate_newB1 {v : Value} {o : Obj} {H : Heap → Prop} (B : Begins v o H) :
    Meets (Builtin.«enumerate.__new__» ⟨[.type "enumerate", v], []⟩) (fun _ R s => H s.heap ∧
      R (.ok (.ret (.ref (s.heap.push o).objs.size))) { s with heap := (s.heap.push o).push { cls := .type "enumerate", data := .fields #[.none, .bool false, .ref s.heap.objs.size, rawInt 0, .none, .none] } }) :=
  .of_wp fun prog w A R s h => by
    obtain ⟨hp, g, d, tk, os⟩ := s; obtain ⟨h1, h⟩ := h
    have hsub := sub_enumerate
    have q1 : ∀ {A' : Around} {E : Value → Shared → Prop} {Q : Value → Shared → Prop}, Q (.ref hp.objs.size) ⟨hp.push o, g, d, tk, os⟩ → wpAny (model prog w) A' (pyIter v) Q E ⟨hp, g, d, tk, os⟩ :=
      fun q => B.iter prog w _ _ ⟨hp, g, d, tk, os⟩ _ h1 q
    wp_walk using q1
    refine wpAny_stack_any fun st => wpAny_pure ?_
    split
    · rename_i c _ _ _ _ _
      cases (c == Value.type "enumerate")
      · wp_walk using q1
        exact ⟨_, rfl, h⟩
      · wp_walk using q1
        exact ⟨_, rfl, h⟩
    · wp_walk using q1
      exact ⟨_, rfl, h⟩
section
variable {prog : Program} {w : World} {A : Around} {E : Value → Shared → Prop} {s : Shared}
theorem enum_begins1 {v : Value} {o : Obj} {H : Heap → Prop} {Q : Value → Shared → Prop} (B : Begins v o H) (h1 : H s.heap)
    (h : ∀ h', IsEnum h' (s.heap.objs.size + 1) s.heap.objs.size 0 .none → h'.get? s.heap.objs.size = some o → h'.objs.size = s.heap.objs.size + 2 →
      (∀ b o, s.heap.get? b = some o → h'.get? b = some o) → Q (.ref (s.heap.objs.size + 1)) { s with heap := h' }) :
    wpAny (model prog w) A (call (.type "enumerate") [v]) Q E s := by
  refine callType_new F.called_enumerate (by decide) (F.typeCall_enumerate_1 _) (F.newCall_enumerate_1 _) (fun obj => F.args_object_init_2 obj _) F.entry_enumerate_new
    (meets_enumerate_newB1 B) ⟨h1, ?_⟩
  have hz : (s.heap.push o).objs.size = s.heap.objs.size + 1 := Heap.size_push ..
  show _ ∧ _
  rw [hz]
  have he : IsEnum ((s.heap.push o).push { cls := .type "enumerate", data := .fields #[.none, .bool false, .ref s.heap.objs.size, rawInt 0, .none, .none] }) (s.heap.objs.size + 1) s.heap.objs.size 0 .none := by
    have := Heap.get?_push_size (s.heap.push o) (o := { cls := .type "enumerate", data := .fields #[.none, .bool false, .ref s.heap.objs.size, rawInt 0, .none, .none] }) rfl
    rw [hz] at this; exact this
  refine ⟨⟨_, he, rfl⟩, h _ he (Heap.get?_push_of_some _ (Heap.get?_push_size _ B.free)) (by rw [Heap.size_push, hz]) fun b o x => Heap.get?_push_of_some _ (Heap.get?_push_of_some _ x)⟩
theorem enum_endT {e it l : Addr} {i : Nat} {c : Int} {items : Array Value} {old : Value} {Q : Option Value → Shared → Prop} (hh : A.handled = none)
    (he : IsEnum s.heap e it c old) (hit : s.heap.IsTupleIter it l i) (hl : s.heap.IsTuple l items) (hx : items[i]? = none)
    (hQ : ∀ h', Heap.ExtBut it s.heap h' → Q none { s with heap := h' }) : wpAny (model prog w) A (pyNext (.ref e)) Q E s := by
  have hT : s.TypeIs (.ref e) "enumerate" := ⟨_, he, rfl⟩
  unfold pyNext
  refine wpAny_bind (wpAny_attempt (wpAny_callSpecial?_slot (name := Str.ofString "__next__") hT F.slot_enumerate_next
    (wpAny_call_entry F.slot_enumerate_next hT F.entry_enumerate_next ?_ (F.args_enumerate_next_1 _))))
  show wpAny _ _ (field (.ref e) 2 >>= _) _ _ _
  refine wpAny_bind (wpAny_field he rfl (x := .ref it) rfl ?_)
  refine wpAny_bind (wpAny_nextOf_tuple_end hh hit hl hx fun h' x he' hx' => ?_)
  obtain ⟨o, ho, hc⟩ := hx'
  refine wpAny_bind (wpAny_isInstance (T := "StopIteration") (b := true) ⟨o, ho, hc⟩ isSubtype_stop ?_)
  exact wpAny_pure (hQ _ he')
end
/-- the tuple at a, each item in a new pair -/
def IteT (K : PySem.W.Frag) (a : Addr) : It :=
  ⟨fun i H => ∃ (xs : List V) (x : V), SqT K H a xs ∧ xs[i]? = some x, fun i H v H' => ∃ T x, v = .ref T ∧ H T = none ∧ H' = upd H T (.tup [.int (i : Nat), x]) ∧ ∀ xs, SqT K H a xs → xs[i]? = some x, fun i H => ∃ xs : List V, SqT K H a xs ∧ xs.length ≤ i⟩
theorem turn_enumT {P : Program} {w : World} {K : PySem.W.Frag} {elts : List Expr} {kk : Nat} {tpos : Pos} (a e it : Addr) :
    Turn P w K (.Tuple elts kk tpos) (IteT K a) [e, it] e (fun i h => (∃ old, IsEnum h e it ((i : Nat) : Int) old) ∧ h.IsTupleIter it a i ∧ e ≠ it) where
  mem := by simp
  obj := fun i h st b hb => by
    obtain ⟨⟨old, he⟩, ⟨o, ho, hc, hd⟩, _⟩ := st
    have e' : b = e ∨ b = it := by simpa using hb
    rcases e' with z | z
    · rw [z]; exact ⟨_, he, fun v q => nomatch q⟩
    · rw [z]; exact ⟨o, ho, fun v q => by rw [hd] at q; cases q⟩
  keep := fun i h h' st k => let ⟨⟨old, he⟩, hi, hne⟩ := st; ⟨⟨old, k e (by simp) _ he⟩, hi.at fun o q => k it (by simp) o q, hne⟩
  item := by
    intro X hP hw hK hc i pins s σ H E I hf st hg
    subst hP hw hK
    obtain ⟨⟨old, he⟩, hit, hne⟩ := st
    obtain ⟨xs, x, hq, hx⟩ := hg
    obtain ⟨its, rv, p, hz⟩ := I.tuple hq
    have pT : s.heap.IsTuple a its.toArray := p
    obtain ⟨u, hu, ru⟩ := rv.get hx
    have hel : e < s.heap.objs.size := Heap.lt_size he
    have hil : it < s.heap.objs.size := by obtain ⟨_, q, _⟩ := hit; exact Heap.lt_size q
    have hal : a ≠ it := by
      rintro rfl
      obtain ⟨o, q, qc, qd⟩ := hit
      obtain ⟨o2, q2, c2, n2, d2⟩ := pT
      rw [q] at q2
      obtain rfl := Option.some.inj q2
      exact absurd (Value.type.inj (qc.symm.trans c2)) (by decide)
    have hae : e ≠ a := by
      rintro rfl
      obtain ⟨o2, q2, c2, m, d2⟩ := pT
      rw [show s.heap.get? e = _ from he] at q2
      obtain rfl := Option.some.inj q2
      cases d2
    have hlt : i < its.toArray.size := by
      have := (List.getElem?_eq_some_iff.mp hu).1
      simpa using this
    refine wpAny_pyNext_enum_itemC (Draws.tuple (A := X.A.in1) (I.ok.hd hc) it a hal its.toArray) he ⟨hit, pT⟩ hlt hne (by simp [hne, hae]) fun y h' tk hy ho hst hT hsz hk => ?_
    obtain ⟨hit', _⟩ := hst
    obtain rfl : u = y := by
      have h1 : its[i]? = some y := by simpa using hy
      rw [hu] at h1
      exact Option.some.inj h1
    refine ⟨_, rfl, wpAny_letOwnedTupleGo_enum (s := { s with heap := h', toks := tk + 1 }) ho fun h'' he' sb => ?_⟩
    have hT2 : h''.get? s.heap.objs.size = some { cls := .type "tuple", data := .seq #[.int (i : Int) tk, u] } := (sb.2 _ (Nat.ne_of_gt hel)).trans hT
    have new : ObjOk X.prog X.w (upd H s.heap.objs.size (.tup [.int (i : Nat), x])) h'' s.heap.objs.size (.tup [.int (i : Nat), x]) :=
      ⟨by show 2 ≤ sizeLine; decide, [.int (i : Int) tk, u], .cons ⟨_, rfl⟩ (.cons ru .nil), ⟨_, hT2, rfl, _, rfl⟩⟩
    have I1 : Inv X pins σ (upd H s.heap.objs.size (.tup [.int (i : Nat), x])) { s with heap := h'', toks := tk + 1 } :=
      I.turnedNew (ch := [e, it]) (fun b ob hb q => (sb.2 b (fun z => hb (by simp [z]))).trans (hk b ob (fun z => hb (by simp [z])) (fun z => hb (by simp [z])) q)) hf (Nat.le_refl _) new
    refine ⟨.ref s.heap.objs.size, _, I1, rfl, ⟨_, x, rfl, I.hok.fresh (Nat.le_refl _), rfl, fun ys hy => by rw [I.tuple_inj hy hq]; exact hx⟩, ⟨⟨u, ?_⟩, hit'.at fun o q => (sb.2 it (Ne.symm hne)).trans q, hne⟩, fun b hb => ?_⟩
    · have e1 : ((i + 1 : Nat) : Int) = (i : Int) + 1 := by omega
      rw [e1]; exact he'
    · have hb' : b < s.heap.objs.size := by
        have e' : b = e ∨ b = it := by simpa using hb
        rcases e' with z | z
        · rw [z]; exact hel
        · rw [z]; exact hil
      rw [upd_ne (Nat.ne_of_lt hb')]
      exact (hf b hb).1
  done := by
    intro X hP hw hK hc i pins s σ H E I hf st hg
    subst hP hw hK
    obtain ⟨⟨old, he⟩, hit, hne⟩ := st
    obtain ⟨xs, hq, hx⟩ := hg
    obtain ⟨its, rv, p, hz⟩ := I.tuple hq
    have pT : s.heap.IsTuple a its.toArray := p
    obtain ⟨f0, f1, f2, f3, f4, f5⟩ := hf it (by simp)
    have hl := rv.length
    exact enum_endT (I.ok.hd hc) he hit pT (by simp; omega) fun h' eb => ⟨rfl, I.turned (t' := s.toks) (fun b o hb q => eb b o hb q) f0 f1 f3 f4 f5⟩
  self := fun A i s Q E st h => let ⟨⟨_, he⟩, _⟩ := st; wpAny_pyIter_enum he h
def iEnumT (K : PySem.W.Frag) (ta : TA) : TI := fun σ H R => ta σ H fun vs H1 => ∃ a xs, vs = [.ref a] ∧ SqT K H1 a xs ∧ R (IteT K a) H1
theorem pi_enumT {X : Cx} {e : Expr} {ta : TA} {p pos tpos : Pos} {elts : List Expr} {kk : Nat} (hg : Gl X "enumerate") (hm : X.mg "enumerate" = none) (ha : PA X [e] ta) (hs : starEach [e] X.env = [(false, eval e X.env)] := by rfl) :
    PI X (.Tuple elts kk tpos) (.Call (.Name "enumerate" p) [e] [] pos) (iEnumT X.K ta) := by
  refine ⟨fun pins s σ H R I h => ?_⟩
  refine Call_ (ld_blt I hg hm boot_enumerate (PyProof.Rows.callWith_type1 (thn (ha.run pos pins s σ H _ I h) fun us s1 ⟨vs, H1, I1, r1, q1⟩ => ?_) hs rfl))
  obtain ⟨a, xs, ex, hq, q⟩ := q1
  subst ex
  cases r1 with
  | cons r rr =>
    cases rr
    cases r
    obtain ⟨its, rv, p', hz⟩ := I1.tuple hq
    have pT : s1.heap.IsTuple a its.toArray := p'
    refine enum_begins1 (begins_tuple a its.toArray) pT fun h' he hit hsz hk => wpAny_pyIter_enum he ?_
    have I2 : Inv X pins σ H1 { s1 with heap := h' } := I1.kept (t' := s1.toks) hk
    refine ⟨s1.heap.objs.size + 1, [s1.heap.objs.size + 1, s1.heap.objs.size], _, _, H1, rfl, I2, turn_enumT a (s1.heap.objs.size + 1) s1.heap.objs.size, ⟨⟨.none, he⟩, ⟨_, hit, rfl, rfl⟩, Nat.succ_ne_self _⟩, fun b hb => ?_, q⟩
    have e' : b = s1.heap.objs.size + 1 ∨ b = s1.heap.objs.size := by simpa using hb
    have hle : s1.heap.objs.size ≤ b := by
      rcases e' with z | z
      · rw [z]; exact Nat.le_add_right _ _
      · rw [z]; exact Nat.le_refl _
    exact I1.fpOk hle (I1.hok.fresh hle)
theorem walk_enumT {K : PySem.W.Frag} {a : Addr} {xs : List V} : Walk (IteT K a) xs.length (fun H => SqT K H a xs) (YPair (fun i => some (.int (i : Nat))) (fun i => xs[i]?)) := by
  refine ⟨fun i _ hi q => ⟨xs, xs[i], q, by simp [hi]⟩, fun _ q => ⟨xs, q, Nat.le_refl _⟩, fun i H v H' _ q y => ?_⟩
  obtain ⟨T, x, h1, h2, h3, h4⟩ := y
  exact ⟨T, .int (i : Nat), x, h1, h2, h3, rfl, h4 xs q⟩
end Wd
end
section
set_option Elab.async false
set_option linter.all false
set_option maxRecDepth 100000
set_option maxHeartbeats 1000000
/-! enumerate of a list or a tuple; t + u for any tuples; any slice of a tuple. -/
namespace Wd
open PySem PySem.Spec PyProof.Rows L2
/-- a list or a tuple, as it stands -/
def SeqH (H : Hp) (a : Addr) (xs : List V) : Prop := H a = some (.lst xs) ∨ H a = some (.tup xs)
theorem SeqH.same {H H' : Hp} {a : Addr} {xs : List V} (h : SeqH H a xs) (s : Same H H') : SeqH H' a xs := h.imp (s _ _) (s _ _)
def iEnumU (K : PySem.W.Frag) (ta : TA) : TI := fun σ H R => ta σ H fun vs H1 => ∃ a xs, vs = [.ref a] ∧ SeqH H1 a xs ∧ ∀ (J : It) (G : Hp → Prop), Walk J xs.length G (YPair (fun i => some (.int (i : Nat))) (fun i => xs[i]?)) → (∀ H', Same H1 H' → G H') → R J H1
theorem pi_enumU {X : Cx} {e : Expr} {ta : TA} {p pos tpos : Pos} {elts : List Expr} {kk : Nat} (hg : Gl X "enumerate") (hm : X.mg "enumerate" = none) (ha : PA X [e] ta) (hs : starEach [e] X.env = [(false, eval e X.env)] := by rfl) :
    PI X (.Tuple elts kk tpos) (.Call (.Name "enumerate" p) [e] [] pos) (iEnumU X.K ta) := by
  refine ⟨fun pins s σ H R I h => ?_⟩
  refine Call_ (ld_blt I hg hm boot_enumerate (PyProof.Rows.callWith_type1 (thn (ha.run pos pins s σ H _ I h) fun us s1 ⟨vs, H1, I1, r1, q1⟩ => ?_) hs rfl))
  obtain ⟨a, xs, ex, hq, q⟩ := q1
  subst ex
  cases r1 with
  | cons r rr =>
    cases rr
    cases r
    have e2 : ∀ {b : Addr}, b ∈ [s1.heap.objs.size + 1, s1.heap.objs.size] → s1.heap.objs.size ≤ b := fun {b} hb => by
      have e' : b = s1.heap.objs.size + 1 ∨ b = s1.heap.objs.size := by simpa using hb
      rcases e' with z | z
      · rw [z]; exact Nat.le_add_right _ _
      · rw [z]; exact Nat.le_refl _
    rcases hq with hq | hq
    · replace q := q _ _ walk_enum fun H' s => SqL.of (K := X.K) (s _ _ hq)
      replace hq := SqL.of (K := X.K) hq
      obtain ⟨its, rv, p', hz⟩ := I1.list hq
      refine call_enumerate_list p'.isList fun h' he hit hsz hk => wpAny_pyIter_enum he ?_
      have I2 : Inv X pins σ H1 { s1 with heap := h' } := I1.kept (t' := s1.toks) hk
      exact ⟨s1.heap.objs.size + 1, [s1.heap.objs.size + 1, s1.heap.objs.size], _, _, H1, rfl, I2, turn_enum a (s1.heap.objs.size + 1) s1.heap.objs.size, ⟨⟨.none, he⟩, hit, Nat.succ_ne_self _⟩, fun b hb => I1.fpOk (e2 hb) (I1.hok.fresh (e2 hb)), q⟩
    · replace q := q _ _ walk_enumT fun H' s => SqT.of (K := X.K) (s _ _ hq)
      replace hq := SqT.of (K := X.K) hq
      obtain ⟨its, rv, p', hz⟩ := I1.tuple hq
      have pT : s1.heap.IsTuple a its.toArray := p'
      refine enum_begins1 (begins_tuple a its.toArray) pT fun h' he hit hsz hk => wpAny_pyIter_enum he ?_
      have I2 : Inv X pins σ H1 { s1 with heap := h' } := I1.kept (t' := s1.toks) hk
      exact ⟨s1.heap.objs.size + 1, [s1.heap.objs.size + 1, s1.heap.objs.size], _, _, H1, rfl, I2, turn_enumT a (s1.heap.objs.size + 1) s1.heap.objs.size, ⟨⟨.none, he⟩, ⟨_, hit, rfl, rfl⟩, Nat.succ_ne_self _⟩, fun b hb => I1.fpOk (e2 hb) (I1.hok.fresh (e2 hb)), q⟩
/-- for x in xs, a list or a tuple -/
def iSeq (K : PySem.W.Frag) (tl : TE) : TI := fun σ H R => tl σ H fun x H1 => ∃ a xs, x = .ref a ∧ SeqH H1 a xs ∧ ∀ (J : It) (G : Hp → Prop), Walk J xs.length G (YAt xs) → (∀ H', Same H1 H' → G H') → R J H1
theorem pi_seq {X : Cx} {tg l : Expr} {tl : TE} (hl : PE X l tl) : PI X tg l (iSeq X.K tl) := by
  refine ⟨fun pins s σ H R I h => ?_⟩
  refine thn (hl.run pins s σ H _ I h) fun v s1 ⟨x, H1, I1, r1, q1⟩ => ?_
  obtain ⟨a, xs, e, hq, q⟩ := q1
  subst e
  cases r1
  rcases hq with hq | hq
  · replace q := q _ _ walk_list fun H' s => SqL.of (K := X.K) (s _ _ hq)
    replace hq := SqL.of (K := X.K) hq
    obtain ⟨its, rv, p, hz⟩ := I1.list hq
    refine wpAny_pyIter_list p.isList ?_
    refine ⟨s1.heap.objs.size, [s1.heap.objs.size], _, _, H1, rfl, I1.kept (t' := s1.toks) fun b o e => Heap.get?_push_of_some _ e, turn_list a _, ⟨_, Heap.get?_push_size _ rfl, rfl, rfl⟩, fun b hb => ?_, q⟩
    have e : b = s1.heap.objs.size := by simpa using hb
    subst e
    exact I1.fpOk (Nat.le_refl _) (I1.hok.fresh (Nat.le_refl _))
  · replace q := q _ _ walk_tup fun H' s => SqT.of (K := X.K) (s _ _ hq)
    replace hq := SqT.of (K := X.K) hq
    obtain ⟨its, rv, p, hz⟩ := I1.tuple hq
    refine wpAny_pyIter_tuple (show s1.heap.IsTuple a its.toArray from p) ?_
    refine ⟨s1.heap.objs.size, [s1.heap.objs.size], _, _, H1, rfl, I1.kept (t' := s1.toks) fun b o e => Heap.get?_push_of_some _ e, turn_tuple a _, ⟨_, Heap.get?_push_size _ rfl, rfl, rfl⟩, fun b hb => ?_, q⟩
    have e : b = s1.heap.objs.size := by simpa using hb
    subst e
    exact I1.fpOk (Nat.le_refl _) (I1.hok.fresh (Nat.le_refl _))
/-- t + u -/
def rCatU : R2 := fun x y H Q => ∃ a b xs ys, x = .ref a ∧ y = .ref b ∧ H a = some (.tup xs) ∧ H b = some (.tup ys) ∧ xs.length + ys.length ≤ sizeLine ∧ ∀ p H', Same H H' → H' p = some (.tup (xs ++ ys)) → Q (.ref p) H'
theorem op_catU {X : Cx} : OpR X (binaryOp .Add) rCatU := by
  intro pins s σ H x y v u Q I rx ry h
  obtain ⟨a, b, xs, ys, rfl, rfl, ha, hb, hz, k⟩ := h
  refine op_catA pins s σ H _ _ v u Q I rx ry ⟨a, b, xs, ys, rfl, rfl, SqT.of ha, SqT.of hb, hz, ?_⟩
  exact ⟨fun e => k b H (Same.refl _) (by rw [hb, e]; rfl), fun _ e => k a H (Same.refl _) (by rw [ha, e, List.append_nil]), fun _ _ p hp => k p _ (same_upd hp) upd_same⟩
/-- a slice of a tuple, the whole or not -/
theorem sl_any {H : Hp} {a : Addr} {xs : List V} {lo hi : Option Int} {Q : V → Hp → Prop} (ha : H a = some (.tup xs)) (k : ∀ p H', Same H H' → H' p = some (.tup (cutV xs lo hi)) → Q (.ref p) H') :
    (HT.sIx xs.length 0 lo = 0 ∧ HT.sIx xs.length xs.length hi = xs.length → Q (.ref a) H) ∧ (¬ (HT.sIx xs.length 0 lo = 0 ∧ HT.sIx xs.length xs.length hi = xs.length) → ∀ p, H p = none → Q (.ref p) (upd H p (.tup (cutV xs lo hi)))) := by
  refine ⟨fun ⟨h1, h2⟩ => k a H (Same.refl _) ?_, fun _ p hp => k p _ (same_upd hp) upd_same⟩
  rw [ha]
  unfold cutV
  rw [h1, h2, List.drop_zero, Nat.sub_zero, List.take_length]
def rSlU : V → Option Int → Option Int → Hp → VK → Prop := fun x lo hi H Q => ∃ a xs, x = .ref a ∧ H a = some (.tup xs) ∧ ∀ p H', Same H H' → H' p = some (.tup (cutV xs lo hi)) → Q (.ref p) H'
theorem sl_tupU {X : Cx} : SlR X rSlU := by
  intro pins s σ H x v vl vu lo hi sl Q I rx hs pl pu h
  obtain ⟨a, xs, rfl, ha, k⟩ := h
  exact sl_tupA pins s σ H _ v vl vu lo hi sl Q I rx hs pl pu ⟨a, xs, rfl, SqT.of ha, sl_any ha k⟩
theorem cutV_to (xs : List V) (n : Nat) : cutV xs none (some (n : Int)) = xs.take n := by
  unfold cutV
  rw [HT.sIx_none, HT.sIx_nat, List.drop_zero, Nat.sub_zero]
  by_cases h : n ≤ xs.length
  · rw [Nat.min_eq_left h]
  · rw [Nat.min_eq_right (by omega), List.take_of_length_le (Nat.le_refl _), List.take_of_length_le (by omega)]
theorem cutV_from (xs : List V) (n : Nat) : cutV xs (some (n : Int)) none = xs.drop n := by
  unfold cutV
  rw [HT.sIx_none, HT.sIx_nat]
  by_cases h : n ≤ xs.length
  · rw [Nat.min_eq_left h, List.take_of_length_le (by rw [List.length_drop]; exact Nat.le_refl _)]
  · rw [Nat.min_eq_right (by omega), List.drop_of_length_le (Nat.le_refl _), List.drop_of_length_le (by omega)]
    exact List.take_nil
end Wd
end
section
set_option Elab.async false
set_option linter.all false
set_option maxRecDepth 100000
set_option maxHeartbeats 1000000
set_option pp.maxSteps 600
/-! a list or a tuple: item, slice, length, its tuple, a list of it -/
namespace Wd
open PySem PySem.Spec PyProof.Rows L2
def rIxU : R2 := fun x y H Q => ∃ a xs i v, x = .ref a ∧ y = .int i ∧ SeqH H a xs ∧ atI xs i = some v ∧ Q v H
theorem ix_U {X : Cx} : IxR X rIxU := by
  intro value slice pins s σ H x y v u Q I rx ry h hs
  obtain ⟨a, xs, i, z, e1, e2, hq, he, q⟩ := h
  rcases hq with hq | hq
  · exact ix_list value slice pins s σ H x y v u Q I rx ry ⟨a, xs, i, z, e1, e2, SqL.of hq, he, q⟩ hs
  · exact ix_tup value slice pins s σ H x y v u Q I rx ry ⟨a, xs, i, z, e1, e2, SqT.of hq, he, q⟩ hs
/-- a slice: of the kind of what is cut -/
def rSlQ : V → Option Int → Option Int → Hp → VK → Prop := fun x lo hi H Q => ∃ a xs, x = .ref a ∧ SeqH H a xs ∧ ∀ p H', Same H H' → SeqH H' p (cutV xs lo hi) → Q (.ref p) H'
theorem sl_seqQ {X : Cx} : SlR X rSlQ := by
  intro pins s σ H x v vl vu lo hi sl Q I rx hs pl pu h
  obtain ⟨a, xs, rfl, ha, k⟩ := h
  rcases ha with ha | ha
  · exact sl_list pins s σ H _ v vl vu lo hi sl Q I rx hs pl pu ⟨a, xs, rfl, SqL.of ha, fun p hp => k p _ (same_upd hp) (.inl upd_same)⟩
  · exact sl_tupU pins s σ H _ v vl vu lo hi sl Q I rx hs pl pu ⟨a, xs, rfl, ha, fun p H' s e => k p H' s (.inr e)⟩
theorem SeqH.len {K : PySem.W.Frag} {H : Hp} {a : Addr} {xs : List V} (h : SeqH H a xs) : LenV K (.ref a) H xs.length := by
  rcases h with h | h
  · exact .inl ⟨xs, SqL.of h, rfl⟩
  · exact .inr ⟨xs, SqT.of h, rfl⟩
def rListU : List V → Hp → VK → Prop := fun vs H Q => ∃ a xs, vs = [.ref a] ∧ SeqH H a xs ∧ ∀ p, H p = none → Q (.ref p) (upd H p (.lst xs))
theorem call_listU {X : Cx} : CallR X (.type "list") rListU := by
  intro pins s σ H xs us Q I r h
  obtain ⟨a, ys, rfl, hq, k⟩ := h
  refine call_list_of pins s σ H _ us Q I r ⟨a, ys, rfl, ?_⟩
  rcases hq with hq | hq
  · exact .inl (SqL.of hq) |> fun z => ⟨z, k⟩
  · exact .inr (SqT.of hq) |> fun z => ⟨z, k⟩
def rTupU : List V → Hp → VK → Prop := fun vs H Q => ∃ a xs, vs = [.ref a] ∧ SeqH H a xs ∧ ∀ p H', Same H H' → H' p = some (.tup xs) → Q (.ref p) H'
theorem call_tupU {X : Cx} : CallR X (.type "tuple") rTupU := by
  intro pins s σ H xs us Q I r h
  obtain ⟨a, ys, rfl, hq, k⟩ := h
  refine call_tuple_of pins s σ H _ us Q I r ⟨a, ys, rfl, ?_⟩
  rcases hq with hq | hq
  · exact .inl ⟨SqL.of hq, fun l hl => k l _ (same_upd hl) upd_same⟩
  · exact .inr ⟨SqT.of hq, k a H (Same.refl _) hq⟩
/-- for x in xs, a list or a tuple: what walks it asks for the object alone -/
def iSeqE (K : PySem.W.Frag) (tl : TE) : TI := fun σ H R => tl σ H fun x H1 => ∃ a xs, x = .ref a ∧ SeqH H1 a xs ∧ ∀ (J : It) (G : Hp → Prop), Walk J xs.length G (YAt xs) → (∀ H', H' a = H1 a → G H') → R J H1
theorem pi_seqE {X : Cx} {tg l : Expr} {tl : TE} (hl : PE X l tl) : PI X tg l (iSeqE X.K tl) := by
  refine ⟨fun pins s σ H R I h => ?_⟩
  refine thn (hl.run pins s σ H _ I h) fun v s1 ⟨x, H1, I1, r1, q1⟩ => ?_
  obtain ⟨a, xs, e, hq, q⟩ := q1
  subst e
  cases r1
  rcases hq with hq | hq
  · replace q := q _ _ walk_list fun H' s => SqL.of (K := X.K) (s.trans hq)
    replace hq := SqL.of (K := X.K) hq
    obtain ⟨its, rv, p, hz⟩ := I1.list hq
    refine wpAny_pyIter_list p.isList ?_
    refine ⟨s1.heap.objs.size, [s1.heap.objs.size], _, _, H1, rfl, I1.kept (t' := s1.toks) fun b o e => Heap.get?_push_of_some _ e, turn_list a _, ⟨_, Heap.get?_push_size _ rfl, rfl, rfl⟩, fun b hb => ?_, q⟩
    have e : b = s1.heap.objs.size := by simpa using hb
    subst e
    exact I1.fpOk (Nat.le_refl _) (I1.hok.fresh (Nat.le_refl _))
  · replace q := q _ _ walk_tup fun H' s => SqT.of (K := X.K) (s.trans hq)
    replace hq := SqT.of (K := X.K) hq
    obtain ⟨its, rv, p, hz⟩ := I1.tuple hq
    refine wpAny_pyIter_tuple (show s1.heap.IsTuple a its.toArray from p) ?_
    refine ⟨s1.heap.objs.size, [s1.heap.objs.size], _, _, H1, rfl, I1.kept (t' := s1.toks) fun b o e => Heap.get?_push_of_some _ e, turn_tuple a _, ⟨_, Heap.get?_push_size _ rfl, rfl, rfl⟩, fun b hb => ?_, q⟩
    have e : b = s1.heap.objs.size := by simpa using hb
    subst e
    exact I1.fpOk (Nat.le_refl _) (I1.hok.fresh (Nat.le_refl _))
/-- what stands at u stays -/
theorem SeqH.eq {H H' : Hp} {a : Addr} {xs : List V} (h : SeqH H a xs) (s : ∀ o, H a = some o → (∀ φ, o ≠ .ext φ) → H' a = some o) : H' a = H a := by
  rcases h with h | h
  · rw [h, s _ h (fun _ => nofun)]
  · rw [h, s _ h (fun _ => nofun)]
end Wd
end
section
set_option Elab.async false
set_option linter.all false
set_option maxRecDepth 100000
set_option maxHeartbeats 1000000
set_option pp.maxSteps 600
/-! ### small things, as for the nets -/
namespace Wd
open PySem PySem.Spec PyProof.Rows L2 Wt TL NumText
theorem ifB {b : Bool} {A B : Prop} (h : b = true) (a : A) : if b = true then A else B := by rw [if_pos h]; exact a
theorem ifN {b : Bool} {A B : Prop} (h : b = false) (z : B) : if b = true then A else B := by
  rw [h, if_neg Bool.false_ne_true]
  exact z
theorem ifQ {b : Bool} {A B : Prop} (x : b = true → A) (y : b = false → B) : if b = true then A else B := by
  cases b
  · exact ifN rfl (y rfl)
  · exact ifB rfl (x rfl)
/-- something is drawn: at most c more draws, all but the pen as it was -/
def Drawn (d l : Addr) (a c : Int) (H : Hp) (P : Int → Hp → Prop) : Prop := ∀ a' H', a ≤ a' → a' ≤ a + c → Pen H' d l a' → But d H H' → P a' H'
structure DDraw (P : Program) (w : World) (K : PySem.W.Frag) (mg : Str → Option Value) (base : Heap) : Prop where
  law_draw : Df P w K mg base CX0 1 "_law_draw" ["_law_pen_here", "_law_many"] spDraw
  law_pick : Df P w K mg base CX0 2 "_law_pick" ["_law_pen_here", "_law_some"] (spPick K)
theorem Pen.dne {H : Hp} {d l : Addr} {a : Int} {t : Addr} {xs : List V} (h : Pen H d l a) (ht : H t = some (.lst xs)) : t ≠ d := by
  obtain ⟨cs, b, h1, _⟩ := h
  rintro rfl
  rw [ht] at h1
  cases h1
theorem Pen.dnt {H : Hp} {d l : Addr} {a : Int} {t : Addr} {xs : List V} (h : Pen H d l a) (ht : H t = some (.tup xs)) : t ≠ d := by
  obtain ⟨cs, b, h1, _⟩ := h
  rintro rfl
  rw [ht] at h1
  cases h1
theorem But.free {d l u : Addr} {a : Int} {H H' : Hp} (b : But d H H') (p : Pen H' d l a) (h : H' u = none) : H u = none := by
  cases e : H u with
  | none => rfl
  | some o =>
    obtain ⟨cs, x, h1, _⟩ := p
    by_cases z : u = d
    · subst z
      rw [h1] at h
      cases h
    · rw [b u o e z] at h
      cases h
theorem ifC' {p : Prop} [Decidable p] {A B : Prop} (a : ¬ p → A) (b : p → B) : if (!decide p) = true then A else B := by
  by_cases h : p
  · rw [decide_eq_true h, if_neg (by decide)]
    exact b h
  · rw [decide_eq_false h, if_pos (by decide)]
    exact a h
inductive All2 {α β : Type} (R : α → β → Prop) : List α → List β → Prop
  | nil : All2 R [] []
  | cons {x : α} {y : β} {xs : List α} {ys : List β} : R x y → All2 R xs ys → All2 R (x :: xs) (y :: ys)
section
variable {α β : Type} {R S : α → β → Prop}
theorem All2.len : ∀ {xs : List α} {ys : List β}, All2 R xs ys → xs.length = ys.length
  | _, _, .nil => rfl
  | _, _, .cons _ h => by rw [List.length_cons, List.length_cons, h.len]
theorem All2.mono (f : ∀ x y, R x y → S x y) : ∀ {xs : List α} {ys : List β}, All2 R xs ys → All2 S xs ys
  | _, _, .nil => .nil
  | _, _, .cons h t => .cons (f _ _ h) (t.mono f)
theorem All2.app : ∀ {xs xs' : List α} {ys ys' : List β}, All2 R xs ys → All2 R xs' ys' → All2 R (xs ++ xs') (ys ++ ys')
  | _, _, _, _, .nil, h => h
  | _, _, _, _, .cons h t, h' => .cons h (t.app h')
theorem All2.snoc {xs : List α} {ys : List β} {x : α} {y : β} (h : All2 R xs ys) (r : R x y) : All2 R (xs ++ [x]) (ys ++ [y]) := h.app (.cons r .nil)
theorem All2.at : ∀ {xs : List α} {ys : List β} {i : Nat} {x : α}, All2 R xs ys → xs[i]? = some x → ∃ y, ys[i]? = some y ∧ R x y
  | _, _, _, _, .nil, e => by simp at e
  | _, _, 0, _, .cons h _, e => by
    have e := Option.some.inj e
    subst e
    exact ⟨_, rfl, h⟩
  | _, _, i + 1, _, .cons _ t, e => t.at (i := i) (by simpa using e)
end
section
variable {d l : Addr} {a : Int} {H H' : Hp}
theorem keepT {c : Addr} {xs : List V} (p : Pen H d l a) (b : But d H H') (h : H c = some (.tup xs)) : H' c = some (.tup xs) := b c _ h (p.dnt h)
theorem keepL {c : Addr} {xs : List V} (p : Pen H d l a) (b : But d H H') (h : H c = some (.lst xs)) : H' c = some (.lst xs) := b c _ h (p.dne h)
end
theorem seq_by {t1 t2 : TS} {D : Ends} {σ : L2.St} {H : Hp} (M : L2.St → Hp → Prop) (h1 : ∀ Nx : L2.St → Hp → Prop, (∀ σ' H', M σ' H' → Nx σ' H') → t1 { D with nx := Nx } σ H) (h2 : ∀ σ' H', M σ' H' → t2 D σ' H') : tSeq t1 t2 D σ H := h1 (t2 D) h2
/-- a method of a class, as the text keeps it -/
structure Md (P : Program) (w : World) (K : PySem.W.Frag) (mg : Str → Option Value) (base : Heap) (C : Addr) (CX : CXT) (k : Nat) (m : Str) (ps : List Str) (sp : Sp) : Prop where
  ex : ∃ f fd, Meth K C m f ∧ FnOk P w K mg base CX k f fd ps sp ∧ Binds K fd ps []
section
variable {X : Cx} {CX : CXT} {k : Nat} {m : Str} {C : Addr} {ps : List Str} {sp : Sp} {E : XK} {o e : Expr} {es : List Expr} {ta : TE} {t : TA} {apos pos : Pos}
theorem pe_md {pl : Sem Bool} (M : Md X.prog X.w X.K X.mg X.base C CX k m ps sp) (he : PE X o ta) (c : Cls X.K C) (hr : Room k X.A) (hx : Passes CX X E) (ha : PA X (e :: es) t)
    (hst : starEach (e :: es) X.env = (false, eval e X.env) :: starEach es X.env := by rfl) (hpl : (backTo pos (starEach es X.env)).any (·.1) = false := by rfl)
    (ht : eval (.Call (.Attribute o m apos) (e :: es) [] pos) X.env = (do
      let ov ← eval o X.env
      standAt apos.atName
      let (f, first) ← holding [ov] (getMethod ov m pl)
      callWith pos f first (backTo pos (starEach (e :: es) X.env)) (backToKw pos (keywordEach [] X.env))) := by rfl) :
    PE X (.Call (.Attribute o m apos) (e :: es) [] pos) (tMeth C m sp [] E ta t) := by
  obtain ⟨f, fd, hm, G, hb⟩ := M.ex
  exact pe_meth (pl := pl) he c hm G hr hb .nil hx ha hst hpl ht
end
theorem sh_of {d : PyData} (h1 : d.canLay0 = true) (h2 : d.depth ≤ 64) : SeqAt.shaped d = true := by
  show (d.canLay0 && decide (d.depth ≤ 64)) = true
  rw [Bool.and_eq_true]
  exact ⟨h1, decide_eq_true h2⟩
theorem norm_st {t1 t2 : TS} {D : Ends} {σ : L2.St} (σ' : L2.St) {H : Hp} (e : σ = σ') (h : tSeq t1 t2 D σ' H) : tSeq t1 t2 D σ H := e ▸ h
theorem all2_of {α β : Type} {R : α → β → Prop} : ∀ {xs : List α} {ys : List β} {i : Nat} {y : β}, All2 R xs ys → ys[i]? = some y → ∃ x, xs[i]? = some x ∧ R x y
  | _, _, _, _, .nil, e => by simp at e
  | _, _, 0, _, .cons h _, e => by
    have e := Option.some.inj e
    subst e
    exact ⟨_, rfl, h⟩
  | _, _, i + 1, _, .cons _ t, e => all2_of (i := i) t (by simpa using e)
end Wd
end
section
set_option Elab.async false
set_option linter.all false
set_option maxRecDepth 100000
set_option maxHeartbeats 2000000
set_option pp.maxSteps 900
/-! ### is_integer, _is_piece -/
namespace Wd
open PySem PySem.Spec PyProof.Rows L2 Wt TL NumText
/-- whether a value is an integer -/
inductive IntB (H : Hp) : V → Bool → Prop
  | int (n : Int) : IntB H (.int n) true
  | bl (b : Bool) : IntB H (.bl b) false
  | non : IntB H .non false
  | str (z : Str) : IntB H (.str z) false
  | tup {a : Addr} {xs : List V} (e : H a = some (.tup xs)) : IntB H (.ref a) false
  | lst {a : Addr} {xs : List V} (e : H a = some (.lst xs)) : IntB H (.ref a) false
def spIsInt : Sp := fun vs H Q _ => ∃ (v : V) (b : Bool), vs = [v] ∧ IntB H v b ∧ Q (.bl b) H
/-- a value that is no container -/
def FlatV : V → Prop
  | .int _ => True
  | .bl _ => True
  | .non => True
  | .str _ => True
  | _ => False
def isI : V → Bool
  | .int _ => true
  | _ => false
theorem FlatV.intB {H : Hp} {v : V} (h : FlatV v) : IntB H v (isI v) := by
  cases v with
  | int n => exact .int n
  | bl b => exact .bl b
  | non => exact .non
  | str z => exact .str z
  | _ => exact h.elim
/-- how many members a piece of a kind has -/
def memK (k : Str) : Option Int := if k = "one" then some 2 else if k = "up" then some 3 else if k = "down" then some 3 else if k = "every" then some 3 else none
def ge1V : Option V → Bool
  | some (.int n) => decide (1 ≤ n)
  | _ => false
/-- whether the members are a piece -/
def okP : List V → Bool
  | .str k :: r => decide (memK k = some ((r.length : Int) + 1)) && (r.all isI && (decide (k = "one") || ge1V r[1]?))
  | _ => false
/-- a value that may stand in the place of a piece -/
inductive PieV (H : Hp) : V → Bool → Prop
  | int (n : Int) : PieV H (.int n) false
  | bl (b : Bool) : PieV H (.bl b) false
  | non : PieV H .non false
  | str (z : Str) : PieV H (.str z) false
  | seq {a : Addr} {xs : List V} (e : SeqH H a xs) (f : ∀ v ∈ xs, FlatV v) (l : xs.length ≤ 100) : PieV H (.ref a) (okP xs)
def spIsPiece : Sp := fun vs H Q _ => ∃ (v : V) (b : Bool), vs = [v] ∧ PieV H v b ∧ ∀ H', Same H H' → Q (.bl b) H'
/-- the dict of the kinds -/
structure Tq (K : PySem.W.Frag) (w : World) : Prop where
  kd : KDic K w (He.ga K "MEMBERS")
  kg : ∀ z, KGet K w (He.ga K "MEMBERS") z ((memK z).map V.int)
theorem kit2 {K : PySem.W.Frag} {t a b : Value} {x y : Bool} (h1 : PySem.W.kitOne K t a = some x) (h2 : PySem.W.kitOne K t b = some y) : PySem.W.kitAny K t [a, b] = some (x || y) := by
  cases x <;> cases y <;> simp [PySem.W.kitAny, h1, h2]
theorem kTL_int {K : PySem.W.Frag} : PySem.W.kitAny K (.type "int") [.type "tuple", .type "list"] = some false := kit2 (x := false) (y := false) (kit_ty (a := "int") (b := "tuple") (r := false) (by decide +kernel)) (kit_ty (a := "int") (b := "list") (r := false) (by decide +kernel))
theorem kTL_bl {K : PySem.W.Frag} : PySem.W.kitAny K (.type "bool") [.type "tuple", .type "list"] = some false := kit2 (x := false) (y := false) (kit_ty (a := "bool") (b := "tuple") (r := false) (by decide +kernel)) (kit_ty (a := "bool") (b := "list") (r := false) (by decide +kernel))
theorem kTL_non {K : PySem.W.Frag} : PySem.W.kitAny K (.type "NoneType") [.type "tuple", .type "list"] = some false := kit2 (x := false) (y := false) (kit_ty (a := "NoneType") (b := "tuple") (r := false) (by decide +kernel)) (kit_ty (a := "NoneType") (b := "list") (r := false) (by decide +kernel))
theorem kTL_str {K : PySem.W.Frag} : PySem.W.kitAny K (.type "str") [.type "tuple", .type "list"] = some false := kit2 (x := false) (y := false) (kit_ty (a := "str") (b := "tuple") (r := false) (by decide +kernel)) (kit_ty (a := "str") (b := "list") (r := false) (by decide +kernel))
theorem kTL_tup {K : PySem.W.Frag} : PySem.W.kitAny K (.type "tuple") [.type "tuple", .type "list"] = some true := kit2 (x := true) (y := false) (kit_ty (a := "tuple") (b := "tuple") (r := true) (by decide +kernel)) (kit_ty (a := "tuple") (b := "list") (r := false) (by decide +kernel))
theorem kTL_lst {K : PySem.W.Frag} : PySem.W.kitAny K (.type "list") [.type "tuple", .type "list"] = some true := kit2 (x := false) (y := true) (kit_ty (a := "list") (b := "tuple") (r := false) (by decide +kernel)) (kit_ty (a := "list") (b := "list") (r := true) (by decide +kernel))
section
variable {P : Program} {w : World} {K : PySem.W.Frag} {mg : Str → Option Value} {base : Heap} {f : Addr} {fd : FuncData}
theorem scIs_integer : FnScope ["value"] ["value"] (defScope (top i_is_integer)) := ⟨rfl, rfl, rfl, by decide +kernel, rfl, by decide +kernel, by decide +kernel⟩
theorem ok_isInt (F : FnG K "is_integer" i_is_integer f fd) (T : Tx K mg) : FnOk P w K mg base CX0 1 f fd ["value"] spIsInt := by
  refine F.ok scIs_integer (fun vs H Q E h => ?_) (fun cdv A outer s H vs Q E hr h => ?_)
  · obtain ⟨v, b, rfl, _⟩ := h
    rfl
  · obtain ⟨v, b, rfl, hb, k⟩ := h
    refine ⟨_, PSs.nox (pss_one (ps_ret (pe_and (pe_callB call_isi (by rfl) T.isinstance (by decide +kernel) (pa_cons (pv 0) (pa_cons (pe_bltn (v := .ty "int") (by rfl) T.int (by decide +kernel) rfl) pa_nil))) (pe_one (pe_not (pe_callB call_isi (by rfl) T.isinstance (by decide +kernel) (pa_cons (pv 0) (pa_cons (pe_bltn (v := .ty "bool") (by rfl) T.bool (by decide +kernel) rfl) pa_nil)))))))), ?_⟩
    cases hb with
    | int n =>
      refine ⟨_, rfl, .int n, .ty "int", .type "int", .type "int", true, rfl, .ty _, .base (.int _), kit_ty (by decide +kernel), true, rfl, iteT ?_⟩
      exact ⟨_, rfl, .int n, .ty "bool", .type "int", .type "bool", false, rfl, .ty _, .base (.int _), kit_ty (by decide +kernel), false, rfl, k⟩
    | bl q =>
      refine ⟨_, rfl, .bl q, .ty "int", .type "bool", .type "int", true, rfl, .ty _, .base (.bl _), kit_ty (by decide +kernel), true, rfl, iteT ?_⟩
      exact ⟨_, rfl, .bl q, .ty "bool", .type "bool", .type "bool", true, rfl, .ty _, .base (.bl _), kit_ty (by decide +kernel), true, rfl, k⟩
    | non => exact ⟨_, rfl, .non, .ty "int", .type "NoneType", .type "int", false, rfl, .ty _, .base .non, kit_ty (by decide +kernel), false, rfl, iteF k⟩
    | str z => exact ⟨_, rfl, .str z, .ty "int", .type "str", .type "int", false, rfl, .ty _, .base (.str _), kit_ty (by decide +kernel), false, rfl, iteF k⟩
    | @tup a xs e => exact ⟨_, rfl, .ref a, .ty "int", .type "tuple", .type "int", false, rfl, .ty _, .base (.tup e), kit_ty (by decide +kernel), false, rfl, iteF k⟩
    | @lst a xs e => exact ⟨_, rfl, .ref a, .ty "int", .type "list", .type "int", false, rfl, .ty _, .base (.lst e), kit_ty (by decide +kernel), false, rfl, iteF k⟩
structure DPiece (P : Program) (w : World) (K : PySem.W.Frag) (mg : Str → Option Value) (base : Heap) : Prop where
  is_integer : Df P w K mg base CX0 1 "is_integer" ["value"] spIsInt
  all : mg "all" = none
theorem scIsPiece : FnScope ["piece", "number"] ["piece"] (defScope (top i__is_piece)) := ⟨rfl, rfl, rfl, by decide +kernel, rfl, by decide +kernel, by decide +kernel⟩
theorem ok_isPiece (F : FnG K "_is_piece" i__is_piece f fd) (T : Tx K mg) (Tk : Tq K w) (D : DPiece P w K mg base) : FnOk P w K mg base CX0 2 f fd ["piece"] spIsPiece := by
  refine F.ok scIsPiece (fun vs H Q E h => ?_) (fun cdv A outer s H vs Q E hr h => ?_)
  · obtain ⟨v, b, rfl, _⟩ := h
    rfl
  · obtain ⟨v, b, rfl, hb, k⟩ := h
    refine ⟨_, PSs.nox (pss_cons (ps_if (PW.pt (pw_or (pt_not (pt_val (pe_callB call_isiT (by rfl) T.isinstance (by decide +kernel) (pa_cons (pv 0) (pa_cons (pe_tup (pa_cons (pe_bltn (v := .ty "tuple") (by rfl) T.tuple (by decide +kernel) rfl) (pa_cons (pe_bltn (v := .ty "list") (by rfl) T.list (by decide +kernel) rfl) pa_nil))) pa_nil))))) (pw_or (pt_cmpR op_eq (pe_callB call_len (by rfl) T.len PySem.boot_len (pa_cons (pv 0) pa_nil)) pe_int (nomark _)) (pw_or1 (pt_not (pt_val (pe_callB call_isi (by rfl) T.isinstance (by decide +kernel) (pa_cons (pe_ix ix_U (pv 0) pe_int (fun _ _ => rfl)) (pa_cons (pe_bltn (v := .ty "str") (by rfl) T.str (by decide +kernel) rfl) pa_nil))))))))) (pss_one (ps_ret pe_bl)) pss_nil)
        (pss_cons (ps_if (pt_cmpR op_ne (pe_kget (pe_glob (v := .ref (He.ga K "MEMBERS")) rfl T.MEMBERS rfl) (pe_ix (r := rIxU) ix_U (pv 0) pe_int (fun _ _ => rfl)) ⟨rfl, rfl, rfl, rfl⟩) (pe_callB call_len (by rfl) T.len PySem.boot_len (pa_cons (pv 0) pa_nil)) (nomark _)) (pss_one (ps_ret pe_bl)) pss_nil)
        (pss_cons (ps_if (pt_not (pt_val (pe_callB (cr_all rfl) (by rfl) D.all (by decide +kernel) (pa_cons (pe_lc (own := [("number", 1)]) rfl scIsPiece.nd (pi_seqE (pe_slice sl_seqQ (pv 0) (po_some pe_int) po_none)) (blkOk_by (own := [("number", 1)]) (N := ["piece", "number"]) (sc := defScope (top i__is_piece)) (by decide +kernel)) (fun _ _ _ _ _ => (pg_name (i := 1) scIsPiece.nd rfl (Or.inl rfl))) (fun _ _ _ _ _ => pts_nil) (fun _ _ _ _ _ => (pe_cd D.is_integer (hr.mono (by decide)) pass0 (pa_cons (pv 1) pa_nil)))) pa_nil)))) (pss_one (ps_ret pe_bl)) pss_nil)
        (pss_one (ps_ret (pe_or (pe_cmpR op_eq (pe_ix ix_U (pv 0) pe_int (fun _ _ => rfl)) pe_str (nomark _)) (pe_one (pe_cmpR op_ge (pe_ix ix_U (pv 0) pe_int (fun _ _ => rfl)) pe_int (nomark _))))))))), ?_⟩
    cases hb with
    | int n => exact ⟨_, rfl, (by show 2 ≤ sizeLine; decide), fun T hT => ⟨_, _, _, _, _, false, rfl, upd_same, .cons (.ty _) (.cons (.ty _) .nil), .base (.int _), kTL_int, _, rfl, ifB rfl (ifB rfl (k _ (same_upd hT)))⟩⟩
    | bl n => exact ⟨_, rfl, (by show 2 ≤ sizeLine; decide), fun T hT => ⟨_, _, _, _, _, false, rfl, upd_same, .cons (.ty _) (.cons (.ty _) .nil), .base (.bl _), kTL_bl, _, rfl, ifB rfl (ifB rfl (k _ (same_upd hT)))⟩⟩
    | non => exact ⟨_, rfl, (by show 2 ≤ sizeLine; decide), fun T hT => ⟨_, _, _, _, _, false, rfl, upd_same, .cons (.ty _) (.cons (.ty _) .nil), .base .non, kTL_non, _, rfl, ifB rfl (ifB rfl (k _ (same_upd hT)))⟩⟩
    | str z => exact ⟨_, rfl, (by show 2 ≤ sizeLine; decide), fun T hT => ⟨_, _, _, _, _, false, rfl, upd_same, .cons (.ty _) (.cons (.ty _) .nil), .base (.str _), kTL_str, _, rfl, ifB rfl (ifB rfl (k _ (same_upd hT)))⟩⟩
    | @seq a xs e fl lx =>
      refine ⟨_, rfl, (by show 2 ≤ sizeLine; decide), fun T hT => ?_⟩
      have s1 := same_upd (o := .tup [.ty "tuple", .ty "list"]) hT
      have tq : (upd H T (.tup [.ty "tuple", .ty "list"])) T = some (.tup [.ty "tuple", .ty "list"]) := upd_same
      have e1 := e.same s1
      generalize upd H T (.tup [.ty "tuple", .ty "list"]) = H1 at s1 tq e1 ⊢
      have ty : ∃ t, TyX K H1 (.ref a) t ∧ PySem.W.kitAny K t [.type "tuple", .type "list"] = some true := by
        rcases e1 with q | q
        · exact ⟨_, .base (.lst q), kTL_lst⟩
        · exact ⟨_, .base (.tup q), kTL_tup⟩
      obtain ⟨t, ty1, ty2⟩ := ty
      refine ⟨_, _, _, t, _, true, rfl, tq, .cons (.ty _) (.cons (.ty _) .nil), ty1, ty2, _, rfl, ifN rfl ?_⟩
      have len1 := SeqH.len (K := K) e1
      refine ⟨_, rfl, _, _, rfl, len1, rfl, _, rfl, ?_⟩
      cases xs with
      | nil => exact ifB rfl (ifB rfl (k _ s1))
      | cons v r =>
        refine ifF (fun e => by have := V.int.inj e; rw [List.length_cons] at this; omega) ?_
        have at0 : atI (v :: r) 0 = some v := atI_nat (j := 0) rfl
        have fv := fl v List.mem_cons_self
        refine ⟨_, rfl, a, _, _, v, rfl, rfl, e1, at0, ?_⟩
        by_cases hs : ∃ z, v = .str z
        · obtain ⟨z, rfl⟩ := hs
          refine ⟨.str z, .ty "str", .type "str", .type "str", true, rfl, .ty _, .base (.str _), kit_ty (by decide +kernel), _, rfl, ifN rfl ?_⟩
          refine ⟨_, rfl, Tk.kd, _, rfl, a, _, _, .str z, rfl, rfl, e1, at0, z, _, rfl, Tk.kg z, ?_⟩
          refine ⟨_, rfl, _, _, rfl, len1, ?_⟩
          have no : memK z ≠ some ((r.length : Int) + 1) → okP (.str z :: r) = false := fun h => by
            show (decide (memK z = some ((r.length : Int) + 1)) && _) = false
            rw [decide_eq_false h]
            rfl
          cases hm : memK z with
          | none =>
            refine ⟨rfl, _, rfl, ifB rfl ?_⟩
            rw [no (by rw [hm]; exact nofun)] at k
            exact k _ s1
          | some m =>
            refine ⟨rfl, _, rfl, ifC' (fun hne => ?_) (fun heq => ?_)⟩
            · rw [no (by rw [hm]; exact fun e => hne (by rw [Option.some.inj e, List.length_cons]; rfl))] at k
              exact k _ s1
            · have em : m = (r.length : Int) + 1 := V.int.inj heq
              refine ⟨_, rfl, _, rfl, a, _, rfl, e1, fun p H2 s2 e2 => ?_⟩
              rw [show cutV (V.str z :: r) (some 1) none = r from cutV_from (V.str z :: r) 1] at e2
              refine ⟨p, r, rfl, e2, fun J G wk hG lB hlB => lc_it wk (fun i H' => Same H2 H' ∧ H' lB = some (.lst (((r.map isI).take i).map V.bl))) ⟨same_upd hlB, upd_same⟩ (fun i H' _ zz => hG _ (e2.eq fun o e _ => zz.1 _ _ e)) ?_ ?_⟩
              · rintro i x Hy H3 hi ⟨s3, q3⟩ ⟨rfl, hvx⟩
                have fx : FlatV x := fl x (List.mem_cons_of_mem _ (List.mem_of_getElem? hvx))
                refine ⟨rfl, iteT (B := Same H2 H3 ∧ H3 lB = some (.lst (((r.map isI).take (i + 1)).map V.bl))) ?_⟩
                refine ⟨_, rfl, x, isI x, rfl, fx.intB, _, q3, by rw [List.length_map, List.length_take, List.length_map, sizeLine_eq]; rw [List.length_cons] at lx; omega, fun c o zz => ?_, ?_⟩
                · rw [upd_ne (ne_of_none zz hlB)]
                  exact s3 _ _ zz
                · rw [upd_same, List.take_add_one, List.getElem?_map, hvx, List.map_append]
                  rfl
              rintro H3 ⟨s3, q3⟩
              rw [List.take_of_length_le (by rw [List.length_map]; exact Nat.le_refl _)] at q3
              refine ⟨lB, _, rfl, SqL.of q3, _, rfl, ?_⟩
              have s13 := (s1.trans s2).trans s3
              have e3 := (e1.same s2).same s3
              have all2 : (r.map isI).all id = r.all isI := by rw [List.all_map]; rfl
              rw [all2]
              have okE : okP (.str z :: r) = (r.all isI && (decide (z = "one") || ge1V r[1]?)) := by
                show (decide (memK z = some ((r.length : Int) + 1)) && _) = _
                rw [decide_eq_true (by rw [hm, em]), Bool.true_and]
              rw [okE] at k
              cases ha : r.all isI with
              | false =>
                rw [ha] at k
                exact ifB rfl (k _ s13)
              | true =>
                rw [ha, Bool.true_and] at k
                refine ifN rfl ?_
                refine ⟨_, rfl, a, _, _, .str z, rfl, rfl, e3, at0, ?_⟩
                by_cases hz : z = "one"
                · subst hz
                  refine ⟨rfl, _, rfl, iteT ?_⟩
                  rw [decide_eq_true rfl, Bool.true_or] at k
                  exact k _ s13
                · refine ⟨rfl, _, congrArg V.bl (decide_eq_false fun e => hz (V.str.inj e)), iteF ?_⟩
                  rw [decide_eq_false hz, Bool.false_or] at k
                  have m3 : m = 3 := by
                    unfold memK at hm
                    rw [if_neg hz] at hm
                    split at hm
                    · exact (Option.some.inj hm).symm
                    · split at hm
                      · exact (Option.some.inj hm).symm
                      · split at hm
                        · exact (Option.some.inj hm).symm
                        · cases hm
                  obtain ⟨v1, v2, rfl⟩ : ∃ v1 v2, r = [v1, v2] := by
                    match r, em with
                    | [v1, v2], _ => exact ⟨v1, v2, rfl⟩
                    | [], e => rw [m3] at e; simp at e
                    | [v1], e => rw [m3] at e; simp at e
                    | v1 :: v2 :: v3 :: r, e => rw [m3] at e; simp at e; omega
                  obtain ⟨t, rfl⟩ : ∃ t, v2 = .int t := by
                    rw [List.all_cons, List.all_cons, Bool.and_eq_true, Bool.and_eq_true] at ha
                    cases v2 with
                    | int t => exact ⟨t, rfl⟩
                    | _ => exact absurd ha.2.1 Bool.false_ne_true
                  refine ⟨_, rfl, a, _, _, .int t, rfl, rfl, e3, atI_nat (j := 2) rfl, ?_⟩
                  exact ⟨_, _, rfl, rfl, k _ s13⟩
        · obtain ⟨t, ht, hk⟩ : ∃ t, TyX K H1 v t ∧ PySem.W.kitOne K t (.type "str") = some false := by
            cases v with
            | int n => exact ⟨_, .base (.int n), kit_ty (by decide +kernel)⟩
            | bl n => exact ⟨_, .base (.bl n), kit_ty (by decide +kernel)⟩
            | non => exact ⟨_, .base .non, kit_ty (by decide +kernel)⟩
            | str z => exact absurd ⟨z, rfl⟩ hs
            | _ => exact fv.elim
          refine ⟨v, .ty "str", t, .type "str", false, rfl, .ty _, ht, hk, _, rfl, ifB rfl ?_⟩
          have eo : okP (v :: r) = false := by
            cases v with
            | str z => exact absurd ⟨z, rfl⟩ hs
            | _ => rfl
          rw [eo] at k
          exact k _ s1
end
end Wd
end
section
set_option Elab.async false
set_option linter.all false
set_option maxRecDepth 100000
set_option maxHeartbeats 2000000
set_option pp.maxSteps 900
/-! A set of whole numbers made by a comprehension of two clauses; its length. -/
namespace Wd
open PySem PySem.Spec PyProof.Rows L2
section
variable {prog : Program} {w : World} {A : Around} {R : Result → Shared → Prop} {s : Shared} {elt ta ia tb ib : Expr} {fa fb : List Expr} {scope : Scope} {pos : Pos} {it acc : Value} {env : Env}
/-- the tree of such a comprehension -/
abbrev sc2E (elt ta ia tb ib : Expr) (fa fb : List Expr) (scope : Scope) (pos : Pos) : Expr := .SetComp elt [⟨ta, ia, fa, 0⟩, ⟨tb, ib, fb, 0⟩] scope pos
abbrev raisesTo (prog : Program) (w : World) (A : Around) (env : Env) (R : Result → Shared → Prop) : Value → Shared → Prop := notedBy (model prog w) A env fun e s' => R (.error e) s'
abbrev testsOf (fs : List Expr) (env : Env) : Sem Bool := forIn fs true fun c r => if r = true then do let ok ← isTrue c env (eval c env); pure (ForInStep.yield ok) else pure (ForInStep.yield r)
theorem sc2_outer : compTurn (sc2E elt ta ia tb ib fa fb scope pos) 0 it acc env = (do
      standAt ia.pos
      match ← pyNext it with
      | none => pure (.done .next)
      | some v => do
        letOwnedTupleGo ta it v; assign ta env v
        let ok ← testsOf fa env
        if ok then do
          let src ← eval ib env; standAt ib.pos
          let src ← foldedSetIterable ib env src
          let _ ← runOwn (.compStart (sc2E elt ta ia tb ib fa fb scope pos) 1 (← holding [src] (pyIter src)) acc env) env
        again (.compLoop (sc2E elt ta ia tb ib fa fb scope pos) 0 it acc env)) := by rfl
theorem sc2_inner : compTurn (sc2E elt ta ia tb ib fa fb scope pos) 1 it acc env = (do
      standAt ib.pos
      match ← pyNext it with
      | none => pure (.done .next)
      | some v => do
        letOwnedTupleGo tb it v; assign tb env v
        let ok ← testsOf fb env
        if ok then
          (do let z ← eval elt env; standAt elt.pos; let _ ← call (.builtin "set.add") [acc, z])
        again (.compLoop (sc2E elt ta ia tb ib fa fb scope pos) 1 it acc env)) := by rfl
/-- the outer clause's loop -/
theorem sc2_loopA (hs : ∀ x, foldedSetIterable ib env x = pure x) (I : Nat → Shared → Prop)
    (turn : ∀ n s, I n s → wpAny (model prog w) A (pyNext it) (fun r s₁ => match r with
      | none => R (.ok .next) s₁
      | some v => wpAny (model prog w) A (letOwnedTupleGo ta it v) (fun _ u₁ => wpAny (model prog w) A (assign ta env v) (fun _ s₂ => wpAny (model prog w) A (testsOf fa env) (fun ok s₃ =>
            if ok = true then wpAny (model prog w) A (eval ib env) (fun x s₄ => wpAny (model prog w) A (pyIter x) (fun it1 s₅ =>
              codeAny (model prog w) A (.compStart (sc2E elt ta ia tb ib fa fb scope pos) 1 it1 acc env) (fun r s' => match r with
                | .ok _ => ∃ m, m < n ∧ I m s'
                | .error _ => False) s₅) (raisesTo prog w A env R) s₄) (raisesTo prog w A env R) s₃
            else ∃ m, m < n ∧ I m s₃) (raisesTo prog w A env R) s₂) (raisesTo prog w A env R) u₁) (raisesTo prog w A env R) s₁) (raisesTo prog w A env R) s)
    (n : Nat) (h : I n s) : codeAny (model prog w) A (.compLoop (sc2E elt ta ia tb ib fa fb scope pos) 0 it acc env) R s := by
  refine codeAny_loop rfl I (fun n s hI => ?_) n h
  show wpAny _ A ((compTurn (sc2E elt ta ia tb ib fa fb scope pos) 0 it acc env).onRaise (fun x => do noteFrame x env; theTreesLotGoes x)) _ _ s
  refine wpAny_noted ?_
  rw [sc2_outer]
  refine wpAny_bind (wpAny_standAt (wpAny_bind (wpAny_mono (turn n s hI) (fun r s₁ g1 => ?_) fun _ _ z => z)))
  cases r with
  | none => exact wpAny_pure g1
  | some v =>
    refine wpAny_bind (wpAny_mono g1 (fun _ u₁ g2 => wpAny_bind (wpAny_mono g2 (fun _ s₂ g3 => wpAny_bind (wpAny_mono g3 (fun ok s₃ g4 => ?_) fun _ _ z => z)) fun _ _ z => z)) fun _ _ z => z)
    cases ok with
    | false => exact wpAny_pure ⟨rfl, g4⟩
    | true =>
      refine wpAny_bind (wpAny_mono g4 (fun x s₄ g5 => ?_) fun _ _ z => z)
      refine wpAny_bind (wpAny_standAt (wpAny_bind (wpAny_of_eq (hs x) (wpAny_bind (wpAny_holding (wpAny_mono g5 (fun it1 s₅ g6 => ?_) fun _ _ z => z))))))
      refine wpAny_bind (wpAny_runOwn ?_)
      rw [Around.mark_none]
      refine codeAny_mono g6 fun r s' hr => ?_
      cases r with
      | error e => exact hr.elim
      | ok f =>
        first
          | exact wpAny_pure ⟨rfl, hr⟩
          | exact wpAny_bind (wpAny_pure (wpAny_pure ⟨rfl, hr⟩))
/-- the inner clause's loop -/
theorem sc2_loopB (I : Nat → Shared → Prop)
    (turn : ∀ n s, I n s → wpAny (model prog w) A (pyNext it) (fun r s₁ => match r with
      | none => R (.ok .next) s₁
      | some v => wpAny (model prog w) A (letOwnedTupleGo tb it v) (fun _ u₁ => wpAny (model prog w) A (assign tb env v) (fun _ s₂ => wpAny (model prog w) A (testsOf fb env) (fun ok s₃ =>
            if ok = true then wpAny (model prog w) A (eval elt env) (fun x s₄ => wpAny (model prog w) A (call (.builtin "set.add") [acc, x]) (fun _ s₅ => ∃ m, m < n ∧ I m s₅) (raisesTo prog w A env R) s₄) (raisesTo prog w A env R) s₃
            else ∃ m, m < n ∧ I m s₃) (raisesTo prog w A env R) s₂) (raisesTo prog w A env R) u₁) (raisesTo prog w A env R) s₁) (raisesTo prog w A env R) s)
    (n : Nat) (h : I n s) : codeAny (model prog w) A (.compLoop (sc2E elt ta ia tb ib fa fb scope pos) 1 it acc env) R s := by
  refine codeAny_loop rfl I (fun n s hI => ?_) n h
  show wpAny _ A ((compTurn (sc2E elt ta ia tb ib fa fb scope pos) 1 it acc env).onRaise (fun x => do noteFrame x env; theTreesLotGoes x)) _ _ s
  refine wpAny_noted ?_
  rw [sc2_inner]
  refine wpAny_bind (wpAny_standAt (wpAny_bind (wpAny_mono (turn n s hI) (fun r s₁ g1 => ?_) fun _ _ z => z)))
  cases r with
  | none => exact wpAny_pure g1
  | some v =>
    refine wpAny_bind (wpAny_mono g1 (fun _ u₁ g2 => wpAny_bind (wpAny_mono g2 (fun _ s₂ g3 => wpAny_bind (wpAny_mono g3 (fun ok s₃ g4 => ?_) fun _ _ z => z)) fun _ _ z => z)) fun _ _ z => z)
    cases ok with
    | false => exact wpAny_pure ⟨rfl, g4⟩
    | true => exact wpAny_bind (wpAny_bind (wpAny_mono g4 (fun x s₄ g5 => wpAny_bind (wpAny_standAt (wpAny_bind (wpAny_mono g5 (fun _ s₅ g6 => wpAny_pure (wpAny_pure ⟨rfl, g6⟩)) fun _ _ z => z)))) fun _ _ z => z))
/-- a clause's start -/
theorem sc2_start (i : Nat) (hi : i = 0 ∨ i = 1) (h0 : codeAny (model prog w) A (.compLoop (sc2E elt ta ia tb ib fa fb scope pos) i it acc env) R s)
    (h : wpAny (model prog w) A (pyIter it) (fun it' s' => codeAny (model prog w) A (.compLoop (sc2E elt ta ia tb ib fa fb scope pos) i it' acc env) R s') (notedBy (model prog w) A env fun x s' => R (.error x) s') s) :
    codeAny (model prog w) A (.compStart (sc2E elt ta ia tb ib fa fb scope pos) i it acc env) R s := by
  refine codeAny_of_tree ?_
  show wpAny _ _ ((compStart (sc2E elt ta ia tb ib fa fb scope pos) i it acc env).onRaise (fun x => do noteFrame x env; standAt theWindowsPlace)) _ _ s
  refine wpAny_notedAt ?_
  rcases hi with rfl | rfl
  all_goals
    unfold compStart
    show wpAny _ _ (ask >>= _) _ _ s
    refine wpAny_bind (wpAny_askSetting (wpAny_ite ?_))
    split
    · first
        | exact wpAny_bind (wpAny_pure (wpAny_pure (And.intro rfl h0)))
        | exact wpAny_pure (And.intro rfl h0)
    · first
        | exact wpAny_bind (wpAny_rule (wpAny_bind (wpAny_standAt (wpAny_bind (wpAny_mono h (fun it' s' g => wpAny_pure (And.intro rfl g)) fun _ _ z => z)))))
        | (refine wpAny_bind (wpAny_rule ?_); show wpAny _ _ (standAt ia.pos >>= _) _ _ s; exact wpAny_bind (wpAny_standAt (wpAny_bind (wpAny_mono h (fun it' s' g => wpAny_pure (And.intro rfl g)) fun _ _ z => z))))
        | (refine wpAny_bind (wpAny_rule ?_); show wpAny _ _ (standAt ib.pos >>= _) _ _ s; exact wpAny_bind (wpAny_standAt (wpAny_bind (wpAny_mono h (fun it' s' g => wpAny_pure (And.intro rfl g)) fun _ _ z => z))))
end
section
variable {X : Cx}
/-- len of a set of whole numbers -/
def rLenI (w : World) : List V → Hp → VK → Prop := fun xs H Q => ∃ (a : Addr) (S : Int → Bool) (n : Nat), xs = [.ref a] ∧ H a = some (SetO w a S n) ∧ n < scanBound ∧ Q (.int (n : Int)) H
theorem call_lenI : CallR X (.builtin "len") (rLenI X.w) := by
  intro pins s σ H xs us Q I r h
  obtain ⟨a, S, n, rfl, ha, hn, q⟩ := h
  cases r with
  | cons r1 r2 =>
  cases r2
  cases r1
  obtain ⟨o, es, ep, t, ho, hex, hd, _, _, _, _, hf, hsz, _⟩ := setO_get I ha
  refine call_len_set ho hex hd hf ?_ ?_
  · rw [hsz]
    have e : scanBound = 4096 := rfl
    omega
  · rw [hsz]
    exact ⟨.int (n : Int), H, I.tok _, ⟨_, rfl⟩, q⟩
/-- found.add(k), raw -/
theorem addI_ok {pins : List (Addr × Obj)} {s : Shared} {σ : L2.St} {H : Hp} {E : Value → Shared → Prop} {D : Addr} {S : Int → Bool} {n : Nat} {k : Int} {u : Value} {Q : Value → Shared → Prop} (I : Inv X pins σ H s) (hD : H D = some (SetO X.w D S n)) (room : n + 1 < scanBound) (r : RelV (.int k) u)
    (h : ∀ s', Inv X pins σ (upd H D (SetO X.w D (fun j => S j || decide (j = k)) (if S k = true then n else n + 1))) s' → Q .none s') : wpAny (model X.prog X.w) X.A (call (.builtin "set.add") [.ref D, u]) Q E s := by
  obtain ⟨tk, rfl⟩ := r
  refine setR_add (setO_get I hD) room fun h' sb new => ?_
  have he : ∃ u, h'.get? D = some u := by
    have ⟨o, _, _, _, ho, _⟩ := new
    exact ⟨o, ho⟩
  exact h _ (I.write (e := D) (t' := s.toks + 1) (by rw [hD]; trivial) (.inl rfl) (fun b u hb hu => (sb.2 b hb).trans hu) he (setO_new new))
/-- {elt for tg in iter if .. for tg1 in iter1 if ..}, elt whole numbers: D the new set; as tLc2 else -/
def tSc2 (w : World) (wi : TI) (g : TG) (tt : TT) (wi1 : TI) (g1 : TG) (tt1 : TT) (te : TE) (vs vs1 : List Nat) : TE := fun σ H Q => wi σ H fun J H1 => ∀ D, H1 D = none → ∃ W : Nat → Nat → Hp → Prop, (∃ m, W 0 m (upd H1 D (SetO w D (fun _ => false) 0))) ∧ ∀ i m H, W i m H →
  (J.stop i H ∧ Q (.ref D) H) ∨ (J.go i H ∧ ∃ Nx : Hp → Prop, (∀ H', Nx H' → ∃ m', m' < m ∧ W (i + 1) m' H') ∧ ∀ x H', J.yld i H x H' → g x (wipe σ vs) H' fun σ2 H2 => wipe σ2 vs = wipe σ vs ∧ tt σ2 H2 fun b H3 =>
    if b = true then wi1 σ2 H3 fun J1 H4 => ∃ W1 : Nat → Nat → Hp → Prop, (∃ m, W1 0 m H4) ∧ ∀ j k H, W1 j k H →
      (J1.stop j H ∧ Nx H) ∨ (J1.go j H ∧ ∃ Nx1 : Hp → Prop, (∀ H', Nx1 H' → ∃ k', k' < k ∧ W1 (j + 1) k' H') ∧ ∀ x H', J1.yld j H x H' → g1 x (wipe σ2 vs1) H' fun σ3 H5 => wipe σ3 vs1 = wipe σ2 vs1 ∧ tt1 σ3 H5 fun b H6 =>
        if b = true then te σ3 H6 fun y H7 => ∃ (c : Int) (S : Int → Bool) (n : Nat), y = .int c ∧ H7 D = some (SetO w D S n) ∧ n + 1 < scanBound ∧ Nx1 (upd H7 D (SetO w D (fun j => S j || decide (j = c)) (if S c = true then n else n + 1))) else Nx1 H6)
    else Nx H3)
theorem pe_sc2 {elt tg iter tg1 iter1 : Expr} {ifs ifs1 : List Expr} {scope : Scope} {own : List (PySem.Str × Nat)} {vs1 : List Nat} {pos : Pos} {wi wi1 : TI} {g g1 : TG} {tt tt1 : TT} {te : TE} (hc : X.calm = true) (hN : X.N.Nodup) (hi : PI X tg iter wi) (ok : BlkOk X.N X.env.scope scope own) (hv : ∀ i ∈ vs1, i ∈ own.map (·.2))
    (hg : ∀ (s : Shared) (H : Hp) (C : Addr) (cl : List (PySem.Str × Addr)) (fp : List Addr), PG (X.blk s H scope (compEnvC scope cl C X.env) fp) tg g)
    (ht : ∀ (s : Shared) (H : Hp) (C : Addr) (cl : List (PySem.Str × Addr)) (fp : List Addr), PTs (X.blk s H scope (compEnvC scope cl C X.env) fp) ifs tt)
    (hi1 : ∀ (s : Shared) (H : Hp) (C : Addr) (cl : List (PySem.Str × Addr)) (fp : List Addr), PI (X.blk s H scope (compEnvC scope cl C X.env) fp) tg1 iter1 wi1)
    (hg1 : ∀ (s : Shared) (H : Hp) (C : Addr) (cl : List (PySem.Str × Addr)) (fp : List Addr), PG (X.blk s H scope (compEnvC scope cl C X.env) fp) tg1 g1)
    (ht1 : ∀ (s : Shared) (H : Hp) (C : Addr) (cl : List (PySem.Str × Addr)) (fp : List Addr), PTs (X.blk s H scope (compEnvC scope cl C X.env) fp) ifs1 tt1)
    (he : ∀ (s : Shared) (H : Hp) (C : Addr) (cl : List (PySem.Str × Addr)) (fp : List Addr), PE (X.blk s H scope (compEnvC scope cl C X.env) fp) elt te) (hs : ∀ x, foldedSetIterable iter X.env x = pure x := by intro _; rfl) (hs1 : ∀ env x, foldedSetIterable iter1 env x = pure x := by intro _ _; rfl) :
    PE X (.SetComp elt [⟨tg, iter, ifs, 0⟩, ⟨tg1, iter1, ifs1, 0⟩] scope pos) (tSc2 X.w wi g tt wi1 g1 tt1 te (own.map (·.2)) vs1) := by
  refine ⟨fun pins s σ H Q I h => ?_⟩
  rw [PpSet.eval_SetComp]
  have free : ∀ y ∈ scope.names, y.2 = .free → ∃ c, X.env.cells.lookup y.1 = some c := fun y hy e => (ok.free y hy e).elim (fun k => I.ok.has _ (.inl k)) (fun k => I.ok.has _ (.inr k))
  refine wpAny_comprehension_free (use := Option.none) rfl hs (closure_ok free) ok.kind (fun y hy e => by rw [ok.uniq y hy, e]) (thn (hi.run pins s σ H _ I h) fun xv s1 hx => thn hx fun itv s2 h2 => ?_)
  obtain ⟨it, fp, tn, J, H2, rfl, I2, T, st2, f2, q⟩ := h2
  refine PpSet.newSet_ok (newEnv_comp ?_)
  generalize hD : s2.heap.objs.size = D
  have hDn : H2 D = none := I2.hok.fresh (Nat.le_of_eq hD)
  obtain ⟨W, ⟨m0, w0⟩, turn⟩ := q D hDn
  -- the empty set stands
  generalize hs3 : ({ s2 with heap := s2.heap.push { cls := .type "set", dict := none, data := .set #[] 0 (.fresh 0 0 (!X.w.params.followText "set-order")) } } : Shared) = s3
  have h3 : s3.heap = s2.heap.push { cls := .type "set", dict := none, data := .set #[] 0 (.fresh 0 0 (!X.w.params.followText "set-order")) } := by rw [← hs3]
  have I3 : Inv X pins σ (upd H2 D (SetO X.w D (fun _ => false) 0)) s3 := by
    subst hs3 hD
    exact I2.laid (t' := s2.toks) (fun b o e => Heap.get?_push_of_some _ e) (Nat.le_refl _) (setO_new (setR_fresh X.w))
  have old : ∀ b o, s2.heap.get? b = some o → s3.heap.get? b = some o := fun b o e => by rw [h3]; exact Heap.get?_push_of_some _ e
  have f3 : ∀ b ∈ fp, FpOk X pins (upd H2 D (SetO X.w D (fun _ => false) 0)) b ∧ b < s3.heap.objs.size := fun b hb => by
    obtain ⟨o, e, _⟩ := T.obj _ _ st2 b hb
    have hlt := Heap.lt_size e
    refine ⟨⟨?_, (f2 b hb).2⟩, Heap.lt_size (old _ _ e)⟩
    rw [upd_ne (by rw [← hD]; exact Nat.ne_of_lt hlt)]
    exact (f2 b hb).1
  have st3 : tn 0 s3.heap := T.keep _ _ _ st2 fun b _ o e => old b o e
  have I4 := block_start I3 ok hN f3
  have nfp : ∀ b ∈ fp, (upd H2 D (SetO X.w D (fun _ => false) 0)) b = none := fun b hb => (f3 b hb).1.1
  generalize hH3 : upd H2 D (SetO X.w D (fun _ => false) 0) = H3 at I3 I4 w0 nfp f3
  have kit := fun (Z : (s : Shared) → (H : Hp) → (C : Addr) → (cl : List (PySem.Str × Addr)) → (fp : List Addr) → Prop) (z : ∀ s H C cl fp, Z s H C cl fp) => z s3 H3 s3.heap.objs.size (cellsFrom (s3.heap.objs.size + 1) scope.names (cloFrom X.env.cells scope.names [])) fp
  have pg := kit _ hg
  have pt := kit _ ht
  have pi1 := kit _ hi1
  have pg1 := kit _ hg1
  have pt1 := kit _ ht1
  have pe := kit _ he
  clear kit
  show codeAny _ _ (.compStart (sc2E elt tg iter tg1 iter1 ifs ifs1 scope pos) 0 (.ref it) (.ref D) (compEnvC scope (cellsFrom (s3.heap.objs.size + 1) scope.names (cloFrom X.env.cells scope.names [])) s3.heap.objs.size X.env)) (compPost (model X.prog X.w) X.A X.xe Option.none _ (.ref D) s3.heap.objs.size) { s3 with heap := pushCells (s3.heap.push { cls := .type "dict", data := .dict #[] }) scope.names }
  generalize hce : compEnvC scope (cellsFrom (s3.heap.objs.size + 1) scope.names (cloFrom X.env.cells scope.names [])) s3.heap.objs.size X.env = ce at I4 pg pt pe pi1 pg1 pt1 ⊢
  have cL : ce.locals = s3.heap.objs.size := by subst hce; rfl
  generalize hs4 : ({ s3 with heap := pushCells (s3.heap.push { cls := .type "dict", data := .dict #[] }) scope.names } : Shared) = s4 at I4 ⊢
  have st4 : tn 0 s4.heap := T.keep _ _ _ st3 fun b _ o e => by rw [← hs4]; exact pushCells_keeps _ _ _ _ (Heap.get?_push_of_some _ e)
  have stat : ∀ {σ' : L2.St} {H' : Hp} {s' : Shared}, Inv (X.blk s3 H3 scope ce fp) [] σ' H' s' → (∀ b ∈ fp, H' b = none) → ∀ b ∈ fp, FpOk (X.blk s3 H3 scope ce fp) [] H' b := fun {σ' H' s'} I' hn b hb =>
    ⟨hn b hb, (I'.ok.exf b hb).1, I'.ok.exfs b hb, .inl hb, fun x c e => (I'.ok.exf b hb).2 x c e, fun p hp => absurd (show p ∈ ([] : List (Addr × Obj)) ++ [] from hp) (by simp)⟩
  have loop : codeAny (model X.prog X.w) X.A (.compLoop (sc2E elt tg iter tg1 iter1 ifs ifs1 scope pos) 0 (.ref it) (.ref D) ce) (compPost (model X.prog X.w) X.A X.xe Option.none (fun v s' => ∃ y H', Inv X pins σ H' s' ∧ RelV y v ∧ Q y H') (.ref D) s3.heap.objs.size) s4 := by
    refine sc2_loopA (hs1 ce) (fun n s' => ∃ i H', Inv (X.blk s3 H3 scope ce fp) [] (wipe σ (own.map (·.2))) H' s' ∧ tn i s'.heap ∧ (∀ b ∈ fp, H' b = none) ∧ W i n H') ?_ m0 ⟨0, H3, I4, st4, nfp, w0⟩
    rintro n s5 ⟨i, H5, I5, st5, n5, w5⟩
    rcases turn i n H5 w5 with ⟨stop, qq⟩ | ⟨go, Nx, hNx, step⟩
    · refine thnF (T.done (X.blk s3 H3 scope ce fp) rfl rfl rfl hc i [] s5 _ H5 (fun _ _ => False) I5 (stat I5 n5) st5 stop) fun r s6 ⟨hr, I6⟩ => ?_
      subst hr
      have I7 : Inv X pins σ H5 s6 := I3.call' (ch := fp) I6.os I6.base I6.hok I6.bare fun b hb => ⟨(f3 b hb).1.2.2.2.1, (f3 b hb).1.2.1, (f3 b hb).1.2.2.2.2.1, (f3 b hb).1.2.2.2.2.2⟩
      have nC : H5 s3.heap.objs.size = none := by
        have z : H5 ce.locals = none := I6.free
        rwa [cL] at z
      obtain ⟨m, hn, _⟩ := I6.loc
      have hn : s6.heap.Ns ce.locals m := hn
      rw [cL] at hn
      obtain ⟨f0, g1, g2, g3, g4, g5⟩ := I3.fpOk (Nat.le_refl _) nC
      exact ⟨m, hn, fun h'' sb => ⟨.ref D, H5, I7.turned (t' := s6.toks) (fun b o hb e => (sb.2 b hb).trans e) f0 g1 g3 g4 g5, rfl, qq⟩⟩
    · refine thnF (T.item (X.blk s3 H3 scope ce fp) rfl rfl rfl hc i [] s5 _ H5 (fun _ _ => False) I5 (stat I5 n5) st5 go) fun r s6 ⟨u, hr, h6⟩ => ?_
      subst hr
      refine thnF h6 fun _ s7 ⟨x, H7, I7, r7, y7, st7, n7⟩ => ?_
      refine thnF (pg.run _ s7 _ H7 x u _ (I7.pinned (stat I7 n7) (T.obj _ _ st7)) r7 (step x H7 y7)) fun _ s8 ⟨σ8, H8, I8, hw8, q8⟩ => ?_
      refine thnF (pt.run _ s8 σ8 H8 _ I8 q8) fun b s9 ⟨H9, I9, q9⟩ => ?_
      have fin : ∀ {σ9 : L2.St} {s' : Shared} {H' : Hp}, Inv (X.blk s3 H3 scope ce fp) ([] ++ pinsAt fp s7.heap) σ9 H' s' → (wipe σ (own.map (·.2))).length = σ9.length → (∀ (j : Nat) v, (wipe σ (own.map (·.2)))[j]? = some (some v) → σ9[j]? = some (some v)) → Nx H' →
          ∃ m, m < n ∧ ∃ i H', Inv (X.blk s3 H3 scope ce fp) [] (wipe σ (own.map (·.2))) H' s' ∧ tn i s'.heap ∧ (∀ b ∈ fp, H' b = none) ∧ W i m H' := by
        intro σ9 s' H' I' hl hk nx
        obtain ⟨m', hm, w'⟩ := hNx H' nx
        have held : ∀ b ∈ fp, ∀ o, s7.heap.get? b = some o → s'.heap.get? b = some o ∧ H' b = none := fun b hb o e => by
          have z := I'.pin (b, o) (List.mem_append_right _ (List.mem_append_right _ (mem_pinsAt hb e)))
          exact ⟨z.1, z.2.1⟩
        refine ⟨m', hm, i + 1, H', (I'.unpinned (pins := [])).weak hl hk, T.keep _ _ _ st7 fun b hb o e => (held b hb o e).1, fun b hb => ?_, w'⟩
        obtain ⟨o, e, _⟩ := T.obj _ _ st7 b hb
        exact (held b hb o e).2
      have hl8 : (wipe σ (own.map (·.2))).length = σ8.length := by rw [← hw8, wipe_length]
      have hk8 : ∀ (j : Nat) v, (wipe σ (own.map (·.2)))[j]? = some (some v) → σ8[j]? = some (some v) := fun j v e => by
        rw [← hw8] at e
        exact (wipe_some e).1
      have hk9 : ∀ (j : Nat) v, (wipe σ (own.map (·.2)))[j]? = some (some v) → (wipe σ8 vs1)[j]? = some (some v) := fun j v e => by
        rw [← hw8] at e
        obtain ⟨e1, e2⟩ := wipe_some e
        rw [wipe_out fun z => e2 (hv j z)]
        exact e1
      cases b with
      | false =>
        rw [if_neg Bool.false_ne_true] at q9 ⊢
        exact fin I9 hl8 hk8 q9
      | true =>
        rw [if_pos rfl] at q9 ⊢
        refine thnF (pi1.run _ s9 σ8 H9 _ I9 q9) fun xv s10 hx => thnF hx fun itv s11 h11 => ?_
        obtain ⟨it1, fp1, tn1, J1, H11, rfl, I11, T1, st11, f11, W1, ⟨m1, w1⟩, turn1⟩ := h11
        have stat1 : ∀ {H' : Hp}, (∀ b ∈ fp1, H' b = none) → ∀ b ∈ fp1, FpOk (X.blk s3 H3 scope ce fp) ([] ++ pinsAt fp s7.heap) H' b := fun hn b hb => ⟨hn b hb, (f11 b hb).2⟩
        have loop1 : codeAny (model X.prog X.w) X.A (.compLoop (sc2E elt tg iter tg1 iter1 ifs ifs1 scope pos) 1 (.ref it1) (.ref D) ce)
            (fun r s' => match r with
              | .ok _ => ∃ m, m < n ∧ ∃ i H', Inv (X.blk s3 H3 scope ce fp) [] (wipe σ (own.map (·.2))) H' s' ∧ tn i s'.heap ∧ (∀ b ∈ fp, H' b = none) ∧ W i m H'
              | .error _ => False) s11 := by
          refine sc2_loopB (fun k s' => ∃ j H', Inv (X.blk s3 H3 scope ce fp) ([] ++ pinsAt fp s7.heap) (wipe σ8 vs1) H' s' ∧ tn1 j s'.heap ∧ (∀ b ∈ fp1, H' b = none) ∧ W1 j k H') ?_ m1 ⟨0, H11, I11.weak (wipe_length _ _) (fun j v e => (wipe_some e).1), st11, fun b hb => (f11 b hb).1, w1⟩
          rintro k s12 ⟨j, H12, I12, st12, n12, w12⟩
          rcases turn1 j k H12 w12 with ⟨stop1, nx1⟩ | ⟨go1, Nx1, hNx1, step1⟩
          · refine thnF (T1.done (X.blk s3 H3 scope ce fp) rfl rfl rfl hc j _ s12 (wipe σ8 vs1) H12 (fun _ _ => False) I12 (stat1 n12) st12 stop1) fun r s13 ⟨hr, I13⟩ => ?_
            subst hr
            exact fin I13 (hl8.trans (wipe_length σ8 vs1).symm) hk9 nx1
          · refine thnF (T1.item (X.blk s3 H3 scope ce fp) rfl rfl rfl hc j _ s12 (wipe σ8 vs1) H12 (fun _ _ => False) I12 (stat1 n12) st12 go1) fun r s13 ⟨u1, hr, h13⟩ => ?_
            subst hr
            refine thnF h13 fun _ s14 ⟨x1, H14, I14, r14, y14, st14, n14⟩ => ?_
            refine thnF (pg1.run _ s14 (wipe σ8 vs1) H14 x1 u1 _ (I14.pinned (stat1 n14) (T1.obj _ _ st14)) r14 (step1 x1 H14 y14)) fun _ s15 ⟨σ15, H15, I15, hw15, q15⟩ => ?_
            refine thnF (pt1.run _ s15 σ15 H15 _ I15 q15) fun b1 s16 ⟨H16, I16, q16⟩ => ?_
            have fin1 : ∀ {s' : Shared} {H' : Hp}, Inv (X.blk s3 H3 scope ce fp) (([] ++ pinsAt fp s7.heap) ++ pinsAt fp1 s14.heap) σ15 H' s' → Nx1 H' → ∃ m, m < k ∧ ∃ j H', Inv (X.blk s3 H3 scope ce fp) ([] ++ pinsAt fp s7.heap) (wipe σ8 vs1) H' s' ∧ tn1 j s'.heap ∧ (∀ b ∈ fp1, H' b = none) ∧ W1 j m H' := by
              intro s' H' I' nx
              obtain ⟨m', hm, w'⟩ := hNx1 H' nx
              have held : ∀ b ∈ fp1, ∀ o, s14.heap.get? b = some o → s'.heap.get? b = some o ∧ H' b = none := fun b hb o e => by
                have z := I'.pin (b, o) (List.mem_append_right _ (List.mem_append_right _ (mem_pinsAt hb e)))
                exact ⟨z.1, z.2.1⟩
              refine ⟨m', hm, j + 1, H', I'.unpinned.weak (by rw [← hw15, wipe_length]) (fun j v e => by rw [← hw15] at e; exact (wipe_some e).1), T1.keep _ _ _ st14 fun b hb o e => (held b hb o e).1, fun b hb => ?_, w'⟩
              obtain ⟨o, e, _⟩ := T1.obj _ _ st14 b hb
              exact (held b hb o e).2
            cases b1 with
            | false =>
              rw [if_neg Bool.false_ne_true] at q16 ⊢
              exact fin1 I16 q16
            | true =>
              rw [if_pos rfl] at q16 ⊢
              refine thnF (pe.run _ s16 σ15 H16 _ I16 q16) fun z s17 ⟨yv, H17, I17, r17, c, S, n', ey, hD17, hz17, nx⟩ => ?_
              subst ey
              exact addI_ok (X := X.blk s3 H3 scope ce fp) I17 hD17 hz17 r17 fun s18 I18 => fin1 I18 nx
        exact sc2_start 1 (.inr rfl) loop1 (T1.self X.A 0 _ _ _ st11 loop1)
  exact sc2_start 0 (.inl rfl) loop (T.self X.A 0 _ _ _ st4 loop)
end
end Wd
end
section
set_option Elab.async false
set_option linter.all false
set_option maxRecDepth 100000
set_option maxHeartbeats 2000000
set_option pp.maxSteps 900
/-! A set of whole numbers made by a comprehension of one clause. -/
namespace Wd
open PySem PySem.Spec PyProof.Rows L2
section
variable {X : Cx}
/-- {elt for tg in iter if ..}, elt whole numbers: D the new set -/
def tSc1 (w : World) (wi : TI) (g : TG) (tt : TT) (te : TE) (vs : List Nat) : TE := fun σ H Q => wi σ H fun J H1 => ∀ D, H1 D = none → ∃ W : Nat → Nat → Hp → Prop, (∃ m, W 0 m (upd H1 D (SetO w D (fun _ => false) 0))) ∧ ∀ i m H, W i m H →
  (J.stop i H ∧ Q (.ref D) H) ∨ (J.go i H ∧ ∃ Nx : Hp → Prop, (∀ H', Nx H' → ∃ m', m' < m ∧ W (i + 1) m' H') ∧ ∀ x H', J.yld i H x H' → g x (wipe σ vs) H' fun σ2 H2 => wipe σ2 vs = wipe σ vs ∧ tt σ2 H2 fun b H3 =>
    if b = true then te σ2 H3 fun y H4 => ∃ (c : Int) (S : Int → Bool) (n : Nat), y = .int c ∧ H4 D = some (SetO w D S n) ∧ n + 1 < scanBound ∧ Nx (upd H4 D (SetO w D (fun j => S j || decide (j = c)) (if S c = true then n else n + 1))) else Nx H3)
theorem pe_sc1 {elt tg iter : Expr} {ifs : List Expr} {scope : Scope} {own : List (PySem.Str × Nat)} {pos : Pos} {wi : TI} {g : TG} {tt : TT} {te : TE} (hc : X.calm = true) (hN : X.N.Nodup) (hi : PI X tg iter wi) (ok : BlkOk X.N X.env.scope scope own)
    (hg : ∀ (s : Shared) (H : Hp) (C : Addr) (cl : List (PySem.Str × Addr)) (fp : List Addr), PG (X.blk s H scope (compEnvC scope cl C X.env) fp) tg g)
    (ht : ∀ (s : Shared) (H : Hp) (C : Addr) (cl : List (PySem.Str × Addr)) (fp : List Addr), PTs (X.blk s H scope (compEnvC scope cl C X.env) fp) ifs tt)
    (he : ∀ (s : Shared) (H : Hp) (C : Addr) (cl : List (PySem.Str × Addr)) (fp : List Addr), PE (X.blk s H scope (compEnvC scope cl C X.env) fp) elt te) (hs : ∀ x, foldedSetIterable iter X.env x = pure x := by intro _; rfl) :
    PE X (.SetComp elt [⟨tg, iter, ifs, 0⟩] scope pos) (tSc1 X.w wi g tt te (own.map (·.2))) := by
  refine ⟨fun pins s σ H Q I h => ?_⟩
  rw [PpSet.eval_SetComp]
  have free : ∀ y ∈ scope.names, y.2 = .free → ∃ c, X.env.cells.lookup y.1 = some c := fun y hy e => (ok.free y hy e).elim (fun k => I.ok.has _ (.inl k)) (fun k => I.ok.has _ (.inr k))
  refine wpAny_comprehension_free (use := Option.none) rfl hs (closure_ok free) ok.kind (fun y hy e => by rw [ok.uniq y hy, e]) (thn (hi.run pins s σ H _ I h) fun xv s1 hx => thn hx fun itv s2 h2 => ?_)
  obtain ⟨it, fp, tn, J, H2, rfl, I2, T, st2, f2, q⟩ := h2
  refine PpSet.newSet_ok (newEnv_comp ?_)
  generalize hD : s2.heap.objs.size = D
  have hDn : H2 D = none := I2.hok.fresh (Nat.le_of_eq hD)
  obtain ⟨W, ⟨m0, w0⟩, turn⟩ := q D hDn
  generalize hs3 : ({ s2 with heap := s2.heap.push { cls := .type "set", dict := none, data := .set #[] 0 (.fresh 0 0 (!X.w.params.followText "set-order")) } } : Shared) = s3
  have h3 : s3.heap = s2.heap.push { cls := .type "set", dict := none, data := .set #[] 0 (.fresh 0 0 (!X.w.params.followText "set-order")) } := by rw [← hs3]
  have I3 : Inv X pins σ (upd H2 D (SetO X.w D (fun _ => false) 0)) s3 := by
    subst hs3 hD
    exact I2.laid (t' := s2.toks) (fun b o e => Heap.get?_push_of_some _ e) (Nat.le_refl _) (setO_new (setR_fresh X.w))
  have old : ∀ b o, s2.heap.get? b = some o → s3.heap.get? b = some o := fun b o e => by rw [h3]; exact Heap.get?_push_of_some _ e
  have f3 : ∀ b ∈ fp, FpOk X pins (upd H2 D (SetO X.w D (fun _ => false) 0)) b ∧ b < s3.heap.objs.size := fun b hb => by
    obtain ⟨o, e, _⟩ := T.obj _ _ st2 b hb
    have hlt := Heap.lt_size e
    refine ⟨⟨?_, (f2 b hb).2⟩, Heap.lt_size (old _ _ e)⟩
    rw [upd_ne (by rw [← hD]; exact Nat.ne_of_lt hlt)]
    exact (f2 b hb).1
  have st3 : tn 0 s3.heap := T.keep _ _ _ st2 fun b _ o e => old b o e
  have I4 := block_start I3 ok hN f3
  have nfp : ∀ b ∈ fp, (upd H2 D (SetO X.w D (fun _ => false) 0)) b = none := fun b hb => (f3 b hb).1.1
  generalize hH3 : upd H2 D (SetO X.w D (fun _ => false) 0) = H3 at I3 I4 w0 nfp f3
  have kit := fun (Z : (s : Shared) → (H : Hp) → (C : Addr) → (cl : List (PySem.Str × Addr)) → (fp : List Addr) → Prop) (z : ∀ s H C cl fp, Z s H C cl fp) => z s3 H3 s3.heap.objs.size (cellsFrom (s3.heap.objs.size + 1) scope.names (cloFrom X.env.cells scope.names [])) fp
  have pg := kit _ hg
  have pt := kit _ ht
  have pe := kit _ he
  clear kit
  show codeAny _ _ (.compStart (.SetComp elt [⟨tg, iter, ifs, 0⟩] scope pos) 0 (.ref it) (.ref D) (compEnvC scope (cellsFrom (s3.heap.objs.size + 1) scope.names (cloFrom X.env.cells scope.names [])) s3.heap.objs.size X.env)) (compPost (model X.prog X.w) X.A X.xe Option.none _ (.ref D) s3.heap.objs.size) { s3 with heap := pushCells (s3.heap.push { cls := .type "dict", data := .dict #[] }) scope.names }
  generalize hce : compEnvC scope (cellsFrom (s3.heap.objs.size + 1) scope.names (cloFrom X.env.cells scope.names [])) s3.heap.objs.size X.env = ce at I4 pg pt pe ⊢
  have cL : ce.locals = s3.heap.objs.size := by subst hce; rfl
  generalize hs4 : ({ s3 with heap := pushCells (s3.heap.push { cls := .type "dict", data := .dict #[] }) scope.names } : Shared) = s4 at I4 ⊢
  have st4 : tn 0 s4.heap := T.keep _ _ _ st3 fun b _ o e => by rw [← hs4]; exact pushCells_keeps _ _ _ _ (Heap.get?_push_of_some _ e)
  have stat : ∀ {σ' : L2.St} {H' : Hp} {s' : Shared}, Inv (X.blk s3 H3 scope ce fp) [] σ' H' s' → (∀ b ∈ fp, H' b = none) → ∀ b ∈ fp, FpOk (X.blk s3 H3 scope ce fp) [] H' b := fun {σ' H' s'} I' hn b hb =>
    ⟨hn b hb, (I'.ok.exf b hb).1, I'.ok.exfs b hb, .inl hb, fun x c e => (I'.ok.exf b hb).2 x c e, fun p hp => absurd (show p ∈ ([] : List (Addr × Obj)) ++ [] from hp) (by simp)⟩
  have loop : codeAny (model X.prog X.w) X.A (.compLoop (.SetComp elt [⟨tg, iter, ifs, 0⟩] scope pos) 0 (.ref it) (.ref D) ce) (compPost (model X.prog X.w) X.A X.xe Option.none (fun v s' => ∃ y H', Inv X pins σ H' s' ∧ RelV y v ∧ Q y H') (.ref D) s3.heap.objs.size) s4 := by
    refine PpSet.compLoopS_any (fun n s' => ∃ i H', Inv (X.blk s3 H3 scope ce fp) [] (wipe σ (own.map (·.2))) H' s' ∧ tn i s'.heap ∧ (∀ b ∈ fp, H' b = none) ∧ W i n H') ?_ m0 ⟨0, H3, I4, st4, nfp, w0⟩
    rintro n s5 ⟨i, H5, I5, st5, n5, w5⟩
    rcases turn i n H5 w5 with ⟨stop, qq⟩ | ⟨go, Nx, hNx, step⟩
    · refine thnF (T.done (X.blk s3 H3 scope ce fp) rfl rfl rfl hc i [] s5 _ H5 (fun _ _ => False) I5 (stat I5 n5) st5 stop) fun r s6 ⟨hr, I6⟩ => ?_
      subst hr
      have I7 : Inv X pins σ H5 s6 := I3.call' (ch := fp) I6.os I6.base I6.hok I6.bare fun b hb => ⟨(f3 b hb).1.2.2.2.1, (f3 b hb).1.2.1, (f3 b hb).1.2.2.2.2.1, (f3 b hb).1.2.2.2.2.2⟩
      have nC : H5 s3.heap.objs.size = none := by
        have z : H5 ce.locals = none := I6.free
        rwa [cL] at z
      obtain ⟨m, hn, _⟩ := I6.loc
      have hn : s6.heap.Ns ce.locals m := hn
      rw [cL] at hn
      obtain ⟨f0, g1, g2, g3, g4, g5⟩ := I3.fpOk (Nat.le_refl _) nC
      exact ⟨m, hn, fun h'' sb => ⟨.ref D, H5, I7.turned (t' := s6.toks) (fun b o hb e => (sb.2 b hb).trans e) f0 g1 g3 g4 g5, rfl, qq⟩⟩
    · refine thnF (T.item (X.blk s3 H3 scope ce fp) rfl rfl rfl hc i [] s5 _ H5 (fun _ _ => False) I5 (stat I5 n5) st5 go) fun r s6 ⟨u, hr, h6⟩ => ?_
      subst hr
      refine thnF h6 fun _ s7 ⟨x, H7, I7, r7, y7, st7, n7⟩ => ?_
      refine thnF (pg.run _ s7 _ H7 x u _ (I7.pinned (stat I7 n7) (T.obj _ _ st7)) r7 (step x H7 y7)) fun _ s8 ⟨σ8, H8, I8, hw8, q8⟩ => ?_
      refine thnF (pt.run _ s8 σ8 H8 _ I8 q8) fun b s9 ⟨H9, I9, q9⟩ => ?_
      have fin : ∀ {s' : Shared} {H' : Hp}, Inv (X.blk s3 H3 scope ce fp) ([] ++ pinsAt fp s7.heap) σ8 H' s' → Nx H' → ∃ m, m < n ∧ ∃ i H', Inv (X.blk s3 H3 scope ce fp) [] (wipe σ (own.map (·.2))) H' s' ∧ tn i s'.heap ∧ (∀ b ∈ fp, H' b = none) ∧ W i m H' := by
        intro s' H' I' nx
        obtain ⟨m', hm, w'⟩ := hNx H' nx
        have held : ∀ b ∈ fp, ∀ o, s7.heap.get? b = some o → s'.heap.get? b = some o ∧ H' b = none := fun b hb o e => by
          have z := I'.pin (b, o) (List.mem_append_right _ (List.mem_append_right _ (mem_pinsAt hb e)))
          exact ⟨z.1, z.2.1⟩
        refine ⟨m', hm, i + 1, H', (I'.unpinned (pins := [])).weak (by rw [← hw8, wipe_length]) (fun j v e => by rw [← hw8] at e; exact (wipe_some e).1), T.keep _ _ _ st7 fun b hb o e => (held b hb o e).1, fun b hb => ?_, w'⟩
        obtain ⟨o, e, _⟩ := T.obj _ _ st7 b hb
        exact (held b hb o e).2
      cases b with
      | false =>
        simp only [Bool.false_eq_true, if_false] at q9 ⊢
        exact fin I9 q9
      | true =>
        simp only [if_true] at q9 ⊢
        refine thnF (pe.run _ s9 σ8 H9 _ I9 q9) fun z s10 ⟨yv, H10, I10, r10, c, S, n', ey, hD10, hz10, nx⟩ => ?_
        subst ey
        exact addI_ok (X := X.blk s3 H3 scope ce fp) I10 hD10 hz10 r10 fun s11 I11 => fin I11 nx
  exact PpSet.codeAny_compStart_set loop (T.self X.A 0 _ _ _ st4 loop)
theorem pe_sc1P {w : World} (hw : X.w = w) {elt tg iter : Expr} {ifs : List Expr} {scope : Scope} {own : List (PySem.Str × Nat)} {pos : Pos} {wi : TI} {g : TG} {tt : TT} {te : TE} (hc : X.calm = true) (hN : X.N.Nodup) (hi : PI X tg iter wi) (ok : BlkOk X.N X.env.scope scope own)
    (hg : ∀ (s : Shared) (H : Hp) (C : Addr) (cl : List (PySem.Str × Addr)) (fp : List Addr), PG (X.blk s H scope (compEnvC scope cl C X.env) fp) tg g)
    (ht : ∀ (s : Shared) (H : Hp) (C : Addr) (cl : List (PySem.Str × Addr)) (fp : List Addr), PTs (X.blk s H scope (compEnvC scope cl C X.env) fp) ifs tt)
    (he : ∀ (s : Shared) (H : Hp) (C : Addr) (cl : List (PySem.Str × Addr)) (fp : List Addr), PE (X.blk s H scope (compEnvC scope cl C X.env) fp) elt te) (hs : ∀ x, foldedSetIterable iter X.env x = pure x := by intro _; rfl) :
    PE X (.SetComp elt [⟨tg, iter, ifs, 0⟩] scope pos) (tSc1 w wi g tt te (own.map (·.2))) := by
  subst hw
  exact pe_sc1 hc hN hi ok hg ht he hs
end
section
variable {J : It} {n : Nat} {G : Hp → Prop} {Y : Nat → Hp → V → Hp → Prop}
theorem sc1_it {w : World} (k : Walk J n G Y) {g : TG} {tt : TT} {te : TE} {vs : List Nat} {σ : L2.St} {H1 : Hp} {D : Addr} {Qd : Hp → Prop} (Pv : Nat → Hp → Prop) (h0 : Pv 0 (upd H1 D (SetO w D (fun _ => false) 0))) (hG : ∀ i H, i ≤ n → Pv i H → G H)
    (hs : ∀ i x H H', i < n → Pv i H → Y i H x H' → g x (wipe σ vs) H' fun σ2 H2 => wipe σ2 vs = wipe σ vs ∧ tt σ2 H2 fun b H3 =>
      if b = true then te σ2 H3 fun y H4 => ∃ (c : Int) (S : Int → Bool) (n : Nat), y = .int c ∧ H4 D = some (SetO w D S n) ∧ n + 1 < scanBound ∧ Pv (i + 1) (upd H4 D (SetO w D (fun j => S j || decide (j = c)) (if S c = true then n else n + 1))) else Pv (i + 1) H3) (hd : ∀ H, Pv n H → Qd H) :
    ∃ W : Nat → Nat → Hp → Prop, (∃ m, W 0 m (upd H1 D (SetO w D (fun _ => false) 0))) ∧ ∀ i m H, W i m H →
      (J.stop i H ∧ Qd H) ∨ (J.go i H ∧ ∃ Nx : Hp → Prop, (∀ H', Nx H' → ∃ m', m' < m ∧ W (i + 1) m' H') ∧ ∀ x H', J.yld i H x H' → g x (wipe σ vs) H' fun σ2 H2 => wipe σ2 vs = wipe σ vs ∧ tt σ2 H2 fun b H3 =>
        if b = true then te σ2 H3 fun y H4 => ∃ (c : Int) (S : Int → Bool) (n : Nat), y = .int c ∧ H4 D = some (SetO w D S n) ∧ n + 1 < scanBound ∧ Nx (upd H4 D (SetO w D (fun j => S j || decide (j = c)) (if S c = true then n else n + 1))) else Nx H3) := by
  refine ⟨fun i m H => m = n - i ∧ i ≤ n ∧ Pv i H, ⟨n, by simp, Nat.zero_le _, h0⟩, ?_⟩
  rintro i m H ⟨rfl, hi, p⟩
  have q := hG i H hi p
  by_cases hlt : i < n
  · exact .inr ⟨k.goes i H hlt q, Pv (i + 1), fun H' p' => ⟨n - (i + 1), by omega, rfl, hlt, p'⟩, fun x H' y => hs i x H H' hlt p (k.yields i H x H' hlt q y)⟩
  · have e : i = n := by omega
    subst e
    exact .inl ⟨k.stops H q, hd H p⟩
end
/-- a if t else b as a test -/
def tIfT (t ta tb : TT) : TT := fun σ H Q => t σ H fun c H1 => if c = true then ta σ H1 Q else tb σ H1 Q
theorem pt_ifE {X : Cx} {a b c : Expr} {pos : Pos} {t ta tb : TT} (hc : PT X c t) (ha : PT X a ta) (hb : PT X b tb) : PT X (.IfExp c a b pos) (tIfT t ta tb) := by
  refine ⟨fun pins s σ H Q I h => ?_⟩
  refine isTrue_IfExp (thn (hc.run pins s σ H _ I h) fun d s1 ⟨H1, I1, q1⟩ => ?_)
  cases d with
  | true => exact ha.run pins s1 σ H1 Q I1 q1
  | false => exact hb.run pins s1 σ H1 Q I1 q1
end Wd
end
section
set_option Elab.async false
set_option linter.all false
set_option maxRecDepth 100000
set_option maxHeartbeats 2000000
set_option pp.maxSteps 900
/-! ### pieces and sets of days (pure), and as they lie in the heap -/
namespace Wd
open PySem PySem.Spec PyProof.Rows L2 Wt TL NumText
inductive Kd | one | up | dn | ev
  deriving DecidableEq
def Kd.w : Kd → Str
  | .one => "one"
  | .up => "up"
  | .dn => "down"
  | .ev => "every"
theorem Kd.w_inj {a b : Kd} (h : a.w = b.w) : a = b := by
  cases a <;> cases b <;> first | rfl | exact absurd h (by decide)
structure Pc where
  k : Kd
  a : Int
  s : Int
/-- its members -/
def Pc.vals (p : Pc) : List V := if p.k = .one then [.str "one", .int p.a] else [.str p.k.w, .int p.a, .int p.s]
def Pc.good (p : Pc) : Prop := p.k ≠ .one → 1 ≤ p.s
theorem Pc.okP (p : Pc) (h : p.good) : okP p.vals = true := by
  unfold Pc.vals
  cases hk : p.k with
  | one =>
    rw [if_pos rfl]
    rfl
  | up | dn | ev =>
    rw [if_neg (by decide)]
    have g := h (by rw [hk]; decide)
    refine (show Wd.okP [.str _, .int p.a, .int p.s] = (decide (1 ≤ p.s)) from ?_).trans (decide_eq_true g)
    simp only [Kd.w]
    rfl
/-- whether a day lies in a piece -/
def inP (p : Pc) (d : Int) : Bool := match p.k with
  | .one => decide (d = p.a)
  | .up => decide ((d - p.a) % p.s = 0) && decide (p.a ≤ d)
  | .dn => decide ((d - p.a) % p.s = 0) && decide (d ≤ p.a)
  | .ev => decide ((d - p.a) % p.s = 0)
def inPs (ps : List Pc) (d : Int) : Bool := ps.any fun p => inP p d
/-- whether x goes farther than b -/
def fartherK (k : Kd) (x b : Int) : Bool := if k = .dn then decide (b < x) else decide (x < b)
def bestStep (k : Kd) (s r : Int) (o : Option Int) (p : Pc) : Option Int :=
  if p.k = k ∧ p.s = s ∧ p.a % p.s = r then (match o with
    | none => some p.a
    | some b => if fartherK k p.a b = true then some p.a else some b) else o
/-- of the pieces of a kind with a step and a rest the one that goes farthest -/
def bestK (k : Kd) (s r : Int) (ps : List Pc) : Option Int := ps.foldl (bestStep k s r) none
theorem best_fold (k : Kd) (s r : Int) : ∀ (ps : List Pc) (o : Option Int),
    (∀ b, ps.foldl (bestStep k s r) o = some b → o = some b ∨ ∃ p ∈ ps, p.k = k ∧ p.s = s ∧ p.a % p.s = r ∧ p.a = b) ∧
    (∀ p ∈ ps, p.k = k → p.s = s → p.a % p.s = r → ∃ b, ps.foldl (bestStep k s r) o = some b ∧ fartherK k p.a b = false) ∧
    (∀ c, o = some c → ∃ b, ps.foldl (bestStep k s r) o = some b ∧ fartherK k c b = false)
  | [], o => by
    refine ⟨fun b h => .inl h, (fun p hp => nomatch hp), fun c h => ⟨c, h, ?_⟩⟩
    unfold fartherK
    split <;> simp
  | p :: ps, o => by
    obtain ⟨h1, h2, h3⟩ := best_fold k s r ps (bestStep k s r o p)
    have self : ∀ x, fartherK k x x = false := fun x => by
      unfold fartherK
      split <;> simp
    have tr : ∀ x y z, fartherK k x y = false → fartherK k y z = false → fartherK k x z = false := fun x y z => by
      unfold fartherK
      split <;> simp <;> omega
    have asy : ∀ x y, fartherK k x y = true → fartherK k y x = false := fun x y => by
      unfold fartherK
      split <;> simp <;> omega
    rw [List.foldl_cons]
    refine ⟨fun b h => ?_, fun q hq e1 e2 e3 => ?_, fun c h => ?_⟩
    · rcases h1 b h with e | ⟨q, hq, z⟩
      · unfold bestStep at e
        by_cases hm : p.k = k ∧ p.s = s ∧ p.a % p.s = r
        · rw [if_pos hm] at e
          cases o with
          | none => exact .inr ⟨p, List.mem_cons_self, hm.1, hm.2.1, hm.2.2, Option.some.inj e⟩
          | some c =>
            simp only at e
            split at e
            · exact .inr ⟨p, List.mem_cons_self, hm.1, hm.2.1, hm.2.2, Option.some.inj e⟩
            · exact .inl e
        · rw [if_neg hm] at e
          exact .inl e
      · exact .inr ⟨q, List.mem_cons_of_mem _ hq, z⟩
    · rcases List.mem_cons.mp hq with rfl | hq
      · have e : ∃ b, bestStep k s r o q = some b ∧ fartherK k q.a b = false := by
          unfold bestStep
          rw [if_pos ⟨e1, e2, e3⟩]
          cases o with
          | none => exact ⟨_, rfl, self _⟩
          | some c =>
            simp only
            cases hf : fartherK k q.a c with
            | true => exact ⟨_, if_pos rfl, self _⟩
            | false => exact ⟨_, if_neg Bool.false_ne_true, hf⟩
        obtain ⟨b, e4, e5⟩ := e
        obtain ⟨b', e6, e7⟩ := h3 b e4
        exact ⟨b', e6, tr _ _ _ e5 e7⟩
      · exact h2 q hq e1 e2 e3
    · have e : ∃ b, bestStep k s r o p = some b ∧ fartherK k c b = false := by
        unfold bestStep
        subst h
        split
        · simp only
          cases hf : fartherK k p.a c with
          | true => exact ⟨_, if_pos rfl, asy _ _ hf⟩
          | false => exact ⟨_, if_neg Bool.false_ne_true, self _⟩
        · exact ⟨_, rfl, self _⟩
      obtain ⟨b, e4, e5⟩ := e
      obtain ⟨b', e6, e7⟩ := h3 b e4
      exact ⟨b', e6, tr _ _ _ e5 e7⟩
theorem best_snoc (k : Kd) (s r : Int) (ps : List Pc) (p : Pc) : bestK k s r (ps ++ [p]) = bestStep k s r (bestK k s r ps) p := by
  unfold bestK
  rw [List.foldl_append]
  rfl
theorem best_none {k : Kd} {s r : Int} {p : Pc} (h : p.k = k ∧ p.s = s ∧ p.a % p.s = r) : bestStep k s r none p = some p.a := by
  unfold bestStep
  rw [if_pos h]
theorem best_yes {k : Kd} {s r b : Int} {p : Pc} (h : p.k = k ∧ p.s = s ∧ p.a % p.s = r) (f : fartherK k p.a b = true) : bestStep k s r (some b) p = some p.a := by
  unfold bestStep
  rw [if_pos h]
  exact if_pos f
theorem best_no {k : Kd} {s r b : Int} {p : Pc} (h : p.k = k ∧ p.s = s ∧ p.a % p.s = r) (f : fartherK k p.a b = false) : bestStep k s r (some b) p = some b := by
  unfold bestStep
  rw [if_pos h]
  exact if_neg (by rw [f]; exact Bool.false_ne_true)
/-- whether a day lies in one of the pieces with a step -/
def upO (o : Option Int) (d : Int) : Bool := match o with
  | some b => decide (b ≤ d)
  | none => false
def dnO (o : Option Int) (d : Int) : Bool := match o with
  | some b => decide (d ≤ b)
  | none => false
def stepsOn (ps : List Pc) (d s : Int) : Bool := (bestK .ev s (d % s) ps).isSome || (upO (bestK .up s (d % s) ps) d || dnO (bestK .dn s (d % s) ps) d)
def onesHas (ps : List Pc) (d : Int) : Bool := ps.any fun p => decide (p.k = .one) && decide (p.a = d)
theorem rest_iff {d a s : Int} : (d - a) % s = 0 ↔ a % s = d % s := by
  rw [← Int.emod_eq_emod_iff_emod_sub_eq_zero]
  exact eq_comm
theorem stepsOn_iff {ps : List Pc} {d s : Int} : stepsOn ps d s = true ↔ ∃ p ∈ ps, p.k ≠ .one ∧ p.s = s ∧ inP p d = true := by
  obtain ⟨u1, u2, _⟩ := best_fold .up s (d % s) ps none
  obtain ⟨n1, n2, _⟩ := best_fold .dn s (d % s) ps none
  obtain ⟨e1, e2, _⟩ := best_fold .ev s (d % s) ps none
  unfold stepsOn
  constructor
  · intro h
    rw [Bool.or_eq_true, Bool.or_eq_true] at h
    rcases h with h | h | h
    · obtain ⟨b, hb⟩ := Option.isSome_iff_exists.mp h
      rcases e1 b hb with z | ⟨p, hp, k1, k2, k3, k4⟩
      · cases z
      refine ⟨p, hp, by rw [k1]; decide, k2, ?_⟩
      unfold inP
      rw [k1]
      rw [k2] at k3
      exact decide_eq_true (by rw [k2]; exact rest_iff.mpr k3)
    · cases hb : bestK .up s (d % s) ps with
      | none => rw [hb] at h; cases h
      | some b =>
        rw [hb] at h
        have hle := of_decide_eq_true h
        rcases u1 b hb with z | ⟨p, hp, k1, k2, k3, k4⟩
        · cases z
        refine ⟨p, hp, by rw [k1]; decide, k2, ?_⟩
        unfold inP
        rw [k1]
        rw [k2] at k3
        show (decide _ && decide _) = true
        rw [decide_eq_true (by rw [k2]; exact rest_iff.mpr k3), decide_eq_true (by rw [k4]; exact hle)]
        rfl
    · cases hb : bestK .dn s (d % s) ps with
      | none => rw [hb] at h; cases h
      | some b =>
        rw [hb] at h
        have hle := of_decide_eq_true h
        rcases n1 b hb with z | ⟨p, hp, k1, k2, k3, k4⟩
        · cases z
        refine ⟨p, hp, by rw [k1]; decide, k2, ?_⟩
        unfold inP
        rw [k1]
        rw [k2] at k3
        show (decide _ && decide _) = true
        rw [decide_eq_true (by rw [k2]; exact rest_iff.mpr k3), decide_eq_true (by rw [k4]; exact hle)]
        rfl
  · rintro ⟨p, hp, ne, rfl, hi⟩
    rw [Bool.or_eq_true, Bool.or_eq_true]
    unfold inP at hi
    cases hk : p.k with
    | one => exact absurd hk ne
    | ev =>
      rw [hk] at hi
      obtain ⟨b, hb, _⟩ := e2 p hp hk rfl (rest_iff.mp (of_decide_eq_true hi))
      exact .inl (by rw [show bestK .ev p.s (d % p.s) ps = some b from hb]; rfl)
    | up =>
      rw [hk] at hi
      have hi : (decide ((d - p.a) % p.s = 0) && decide (p.a ≤ d)) = true := hi
      rw [Bool.and_eq_true] at hi
      obtain ⟨b, hb, hf⟩ := u2 p hp hk rfl (rest_iff.mp (of_decide_eq_true hi.1))
      refine .inr (.inl ?_)
      rw [show bestK .up p.s (d % p.s) ps = some b from hb]
      unfold fartherK at hf
      rw [if_neg (by decide)] at hf
      have h1 := of_decide_eq_false hf
      have h2 := of_decide_eq_true hi.2
      exact decide_eq_true (by omega)
    | dn =>
      rw [hk] at hi
      have hi : (decide ((d - p.a) % p.s = 0) && decide (d ≤ p.a)) = true := hi
      rw [Bool.and_eq_true] at hi
      obtain ⟨b, hb, hf⟩ := n2 p hp hk rfl (rest_iff.mp (of_decide_eq_true hi.1))
      refine .inr (.inr ?_)
      rw [show bestK .dn p.s (d % p.s) ps = some b from hb]
      unfold fartherK at hf
      rw [if_pos rfl] at hf
      have h1 := of_decide_eq_false hf
      have h2 := of_decide_eq_true hi.2
      exact decide_eq_true (by omega)
/-- what the set tells of a day is what its pieces tell -/
theorem in_days {ps : List Pc} {ns : List Int} (h : ∀ k, k ∈ ns ↔ ∃ p ∈ ps, p.k ≠ .one ∧ p.s = k) (d : Int) : (onesHas ps d || ns.any (stepsOn ps d)) = inPs ps d := by
  rw [Bool.eq_iff_iff, Bool.or_eq_true]
  unfold onesHas inPs
  rw [List.any_eq_true, List.any_eq_true, List.any_eq_true]
  constructor
  · rintro (⟨p, hp, e⟩ | ⟨s, hs, e⟩)
    · rw [Bool.and_eq_true] at e
      refine ⟨p, hp, ?_⟩
      unfold inP
      rw [of_decide_eq_true e.1]
      exact decide_eq_true (of_decide_eq_true e.2).symm
    · obtain ⟨p, hp, _, _, hi⟩ := stepsOn_iff.mp e
      exact ⟨p, hp, hi⟩
  · rintro ⟨p, hp, hi⟩
    by_cases h1 : p.k = .one
    · refine .inl ⟨p, hp, ?_⟩
      unfold inP at hi
      rw [h1] at hi ⊢
      rw [Bool.and_eq_true]
      exact ⟨rfl, decide_eq_true (of_decide_eq_true hi).symm⟩
    · exact .inr ⟨p.s, (h p.s).mpr ⟨p, hp, h1, rfl⟩, stepsOn_iff.mpr ⟨p, hp, h1, rfl, hi⟩⟩
/-! ### in the heap -/
def PcA (H : Hp) (v : V) (p : Pc) : Prop := ∃ a, v = .ref a ∧ H a = some (.tup p.vals)
def PcsA (H : Hp) (xs : List V) (ps : List Pc) : Prop := All2 (PcA H) xs ps
theorem PcsA.same {H H' : Hp} {xs : List V} {ps : List Pc} (h : PcsA H xs ps) (s : Same H H') : PcsA H' xs ps := All2.mono (fun _ _ ⟨a, e, z⟩ => ⟨a, e, s _ _ z⟩) h
/-- the starts of a kind, by step and rest -/
def StA (H : Hp) (a : Addr) (ps : List Pc) (k : Kd) : Prop := ∃ kvs : List (List Key × V), H a = some (.dT kvs) ∧ kvs.length ≤ ps.length ∧ ∀ s r : Int, valV kvs [Sum.inl s, Sum.inl r] = (bestK k s r ps).map V.int
structure DayA (K : PySem.W.Frag) (H : Hp) (a : Addr) (ps : List Pc) : Prop where
  ex : ∃ (dx po o u n e st : Addr) (xs : List V) (okv : List (Key × V)) (ns : List Int), H a = some (.ins (He.ga K "Days") dx [("pieces", .ref po), ("_ones", .ref o), ("_ups", .ref u), ("_downs", .ref n), ("_everys", .ref e), ("_steps", .ref st)]) ∧
    H po = some (.tup xs) ∧ PcsA H xs ps ∧ H o = some (.dK okv) ∧ (∀ d : Int, (valV okv (Sum.inl d)).isSome = onesHas ps d) ∧ StA H u ps .up ∧ StA H n ps .dn ∧ StA H e ps .ev ∧ H st = some (.tup (ns.map V.int)) ∧ (∀ k, k ∈ ns ↔ ∃ p ∈ ps, p.k ≠ .one ∧ p.s = k) ∧ ns.length < 64 ∧ ∀ z : Str, valV okv (Sum.inr z) = none
  gd : ∀ p ∈ ps, p.good
theorem StA.same {H H' : Hp} {a : Addr} {ps : List Pc} {k : Kd} (h : StA H a ps k) (s : Same H H') : StA H' a ps k := by
  obtain ⟨kvs, e, z⟩ := h
  exact ⟨kvs, s _ _ e, z⟩
theorem DayA.same {K : PySem.W.Frag} {H H' : Hp} {a : Addr} {ps : List Pc} (h : DayA K H a ps) (s : Same H H') : DayA K H' a ps := by
  obtain ⟨dx, po, o, u, n, e, st, xs, okv, ns, h1, h2, h3, h4, h5, h6, h7, h8, h9, h10⟩ := h.ex
  exact ⟨⟨dx, po, o, u, n, e, st, xs, okv, ns, s _ _ h1, s _ _ h2, h3.same s, s _ _ h4, h5, h6.same s, h7.same s, h8.same s, s _ _ h9, h10⟩, h.gd⟩
end Wd
end
section
set_option Elab.async false
set_option linter.all false
set_option maxRecDepth 100000
set_option maxHeartbeats 2000000
set_option pp.maxSteps 900
/-! ### pieces: turned, the next day, sums (pure) -/
namespace Wd
open PySem PySem.Spec PyProof.Rows L2 Wt TL NumText
def sgK (k : Kd) (t : Int) : Prop := match k with
  | .one => t = 0
  | .up => 0 ≤ t
  | .dn => t ≤ 0
  | .ev => True
theorem dvd_param {s x : Int} (h : x % s = 0) : ∃ t, x = s * t := ⟨x / s, (Int.mul_ediv_cancel' (Int.dvd_of_emod_eq_zero h)).symm⟩
theorem mul_pos_iff {s t : Int} (hs : 1 ≤ s) : 0 ≤ s * t ↔ 0 ≤ t := by
  constructor
  · intro h
    by_cases ht : 0 ≤ t
    · exact ht
    · have : s * t < 0 := Int.mul_neg_of_pos_of_neg (by omega) (by omega)
      omega
  · intro h
    exact Int.mul_nonneg (by omega) h
theorem mul_npos_iff {s t : Int} (hs : 1 ≤ s) : s * t ≤ 0 ↔ t ≤ 0 := by
  have z := mul_pos_iff (s := s) (t := -t) hs
  rw [Int.mul_neg] at z
  omega
theorem inP_iff {p : Pc} (h : p.k ≠ .one) (g : p.good) (x : Int) : inP p x = true ↔ ∃ t, sgK p.k t ∧ x = p.a + p.s * t := by
  have gs := g h
  unfold inP sgK
  cases hk : p.k with
  | one => exact absurd hk h
  | up =>
    show (decide _ && decide _) = true ↔ _
    rw [Bool.and_eq_true, decide_eq_true_iff, decide_eq_true_iff]
    constructor
    · rintro ⟨h1, h2⟩
      obtain ⟨t, ht⟩ := dvd_param h1
      exact ⟨t, (mul_pos_iff gs).mp (by omega), by omega⟩
    · rintro ⟨t, h1, rfl⟩
      have := (mul_pos_iff gs).mpr h1
      exact ⟨by rw [show p.a + p.s * t - p.a = p.s * t from by omega]; exact Int.mul_emod_right _ _, by omega⟩
  | dn =>
    show (decide _ && decide _) = true ↔ _
    rw [Bool.and_eq_true, decide_eq_true_iff, decide_eq_true_iff]
    constructor
    · rintro ⟨h1, h2⟩
      obtain ⟨t, ht⟩ := dvd_param h1
      exact ⟨t, (mul_npos_iff gs).mp (by omega), by omega⟩
    · rintro ⟨t, h1, rfl⟩
      have := (mul_npos_iff gs).mpr h1
      exact ⟨by rw [show p.a + p.s * t - p.a = p.s * t from by omega]; exact Int.mul_emod_right _ _, by omega⟩
  | ev =>
    show decide _ = true ↔ _
    rw [decide_eq_true_iff]
    constructor
    · intro h1
      obtain ⟨t, ht⟩ := dvd_param h1
      exact ⟨t, trivial, by omega⟩
    · rintro ⟨t, h1, rfl⟩
      rw [show p.a + p.s * t - p.a = p.s * t from by omega]
      exact Int.mul_emod_right _ _
theorem inP_one {p : Pc} (h : p.k = .one) (x : Int) : inP p x = true ↔ x = p.a := by
  unfold inP
  rw [h]
  exact decide_eq_true_iff
/-- turned: the same days, counted the other way -/
def Kd.tn : Kd → Kd
  | .one => .one
  | .up => .dn
  | .dn => .up
  | .ev => .ev
def Pc.tn (p : Pc) : Pc := ⟨p.k.tn, -p.a, p.s⟩
theorem Kd.tn_one {k : Kd} : k.tn = .one ↔ k = .one := by cases k <;> simp [Kd.tn]
theorem Kd.tn_tn (k : Kd) : k.tn.tn = k := by cases k <;> rfl
theorem Pc.tn_tn (p : Pc) : p.tn.tn = p := by
  obtain ⟨k, a, s⟩ := p
  show Pc.mk k.tn.tn (- -a) s = _
  rw [Kd.tn_tn, Int.neg_neg]
theorem Pc.tn_good {p : Pc} (g : p.good) : p.tn.good := fun h => g (fun e => h (Kd.tn_one.mpr e))
theorem sgK_tn (k : Kd) (t : Int) : sgK k.tn t ↔ sgK k (-t) := by
  cases k <;> simp only [Kd.tn, sgK] <;> omega
theorem inP_tn {p : Pc} (g : p.good) (d : Int) : inP p.tn d = inP p (-d) := by
  rw [Bool.eq_iff_iff]
  by_cases h : p.k = .one
  · rw [inP_one (p := p.tn) (Kd.tn_one.mpr h), inP_one h]
    show d = -p.a ↔ _
    omega
  · rw [inP_iff (p := p.tn) (fun e => h (Kd.tn_one.mp e)) (Pc.tn_good g), inP_iff h g]
    show (∃ t, sgK p.k.tn t ∧ d = -p.a + p.s * t) ↔ _
    constructor
    · rintro ⟨t, h1, h2⟩
      exact ⟨-t, (sgK_tn _ _).mp h1, by rw [Int.mul_neg]; omega⟩
    · rintro ⟨t, h1, h2⟩
      exact ⟨-t, (sgK_tn _ _).mpr (by rw [Int.neg_neg]; exact h1), by rw [Int.mul_neg]; omega⟩
theorem inPs_iff {ps : List Pc} {d : Int} : inPs ps d = true ↔ ∃ p ∈ ps, inP p d = true := List.any_eq_true
theorem inPs_tn {ps : List Pc} (g : ∀ p ∈ ps, p.good) (d : Int) : inPs (ps.map Pc.tn) d = inPs ps (-d) := by
  rw [Bool.eq_iff_iff, inPs_iff, inPs_iff]
  constructor
  · rintro ⟨q, hq, h⟩
    obtain ⟨p, hp, rfl⟩ := List.mem_map.mp hq
    exact ⟨p, hp, by rw [← inP_tn (g p hp)]; exact h⟩
  · rintro ⟨p, hp, h⟩
    exact ⟨p.tn, List.mem_map_of_mem hp, by rw [inP_tn (g p hp)]; exact h⟩
/-! ### the next day -/
def nextU (p : Pc) (low : Int) : Option Int :=
  if (p.k = .one ∨ p.k = .up) ∧ low ≤ p.a then some p.a
  else if p.k = .one ∨ (p.k = .dn ∧ p.a < low) then none
  else some (low + (p.a - low) % p.s)
theorem nextU_some {p : Pc} {low d : Int} (g : p.good) (h : nextU p low = some d) : inP p d = true ∧ low ≤ d ∧ (∀ x, inP p x = true → low ≤ x → d ≤ x) ∧ (d = p.a ∨ (p.k ≠ .one ∧ d < low + p.s)) := by
  unfold nextU at h
  by_cases h1 : (p.k = .one ∨ p.k = .up) ∧ low ≤ p.a
  · rw [if_pos h1] at h
    cases h
    rcases h1 with ⟨hk | hk, hl⟩
    · exact ⟨(inP_one hk _).mpr rfl, hl, fun x hx _ => Int.le_of_eq ((inP_one hk _).mp hx).symm, .inl rfl⟩
    · have n1 : p.k ≠ .one := by rw [hk]; decide
      refine ⟨(inP_iff n1 g _).mpr ⟨0, by rw [hk]; exact Int.le_refl 0, by rw [Int.mul_zero]; omega⟩, hl, fun x hx _ => ?_, .inl rfl⟩
      obtain ⟨t, ht, rfl⟩ := (inP_iff n1 g _).mp hx
      rw [hk] at ht
      have := (mul_pos_iff (g n1)).mpr ht
      omega
  · rw [if_neg h1] at h
    by_cases h2 : p.k = .one ∨ (p.k = .dn ∧ p.a < low)
    · rw [if_pos h2] at h
      cases h
    · rw [if_neg h2] at h
      have hd := Option.some.inj h
      have n1 : p.k ≠ .one := fun e => h2 (.inl e)
      have gs := g n1
      have e0 := Int.emod_nonneg (p.a - low) (show p.s ≠ 0 by omega)
      have e1 := Int.emod_lt_of_pos (p.a - low) (show 0 < p.s by omega)
      have e2 := Int.emod_add_mul_ediv (p.a - low) p.s
      have hdx : d = p.a + p.s * (-((p.a - low) / p.s)) := by rw [Int.mul_neg]; omega
      have low_least : ∀ x, (∃ t, x = p.a + p.s * t) → low ≤ x → d ≤ x := by
        rintro x ⟨t, rfl⟩ hx
        by_cases hle : d ≤ p.a + p.s * t
        · exact hle
        · have hneg : p.s * (t - (-((p.a - low) / p.s))) < 0 := by rw [Int.mul_sub]; omega
          have ht : t - (-((p.a - low) / p.s)) ≤ -1 := by
            by_cases hh : t - (-((p.a - low) / p.s)) ≤ -1
            · exact hh
            · have := (mul_pos_iff gs (t := t - (-((p.a - low) / p.s)))).mpr (by omega)
              omega
          have h5 : p.s * (t - (-((p.a - low) / p.s)) + 1) ≤ 0 := (mul_npos_iff gs).mpr (by omega)
          rw [Int.mul_add, Int.mul_sub, Int.mul_one] at h5
          omega
      refine ⟨(inP_iff n1 g _).mpr ⟨_, ?_, hdx⟩, by omega, fun x hx hl => ?_, .inr ⟨n1, by omega⟩⟩
      · cases hk : p.k with
        | one => exact absurd hk n1
        | ev => exact trivial
        | up =>
          have hl : p.a < low := by
            by_cases z : low ≤ p.a
            · exact absurd ⟨.inr hk, z⟩ h1
            · omega
          show 0 ≤ _
          have : 0 ≤ p.s * (-((p.a - low) / p.s)) := by omega
          exact (mul_pos_iff gs).mp this
        | dn =>
          have hl : low ≤ p.a := by
            by_cases z : p.a < low
            · exact absurd (.inr ⟨hk, z⟩) h2
            · omega
          show _ ≤ (0 : Int)
          have h0 : 0 ≤ (p.a - low) / p.s := Int.ediv_nonneg (by omega) (by omega)
          omega
      · obtain ⟨t, _, e⟩ := (inP_iff n1 g _).mp hx
        exact low_least x ⟨t, e⟩ hl
theorem nextU_none {p : Pc} {low : Int} (g : p.good) (h : nextU p low = none) (x : Int) (hx : inP p x = true) : x < low := by
  unfold nextU at h
  by_cases h1 : (p.k = .one ∨ p.k = .up) ∧ low ≤ p.a
  · rw [if_pos h1] at h
    cases h
  · rw [if_neg h1] at h
    by_cases h2 : p.k = .one ∨ (p.k = .dn ∧ p.a < low)
    · rcases h2 with hk | ⟨hk, hl⟩
      · have := (inP_one hk _).mp hx
        have : ¬ low ≤ p.a := fun z => h1 ⟨.inl hk, z⟩
        omega
      · have n1 : p.k ≠ .one := by rw [hk]; decide
        obtain ⟨t, ht, rfl⟩ := (inP_iff n1 g _).mp hx
        rw [hk] at ht
        have := (mul_npos_iff (g n1)).mpr ht
        omega
    · rw [if_neg h2] at h
      cases h
/-- what next_down tells -/
def nextD (p : Pc) (high : Int) : Option Int := (nextU p.tn (-high)).map fun d => -d
theorem nextD_some {p : Pc} {high d : Int} (g : p.good) (h : nextD p high = some d) : inP p d = true ∧ d ≤ high ∧ (∀ x, inP p x = true → x ≤ high → x ≤ d) ∧ (d = p.a ∨ (p.k ≠ .one ∧ high - p.s < d)) := by
  unfold nextD at h
  obtain ⟨e, h1, rfl⟩ := Option.map_eq_some_iff.mp h
  obtain ⟨h2, h3, h4, h5⟩ := nextU_some (Pc.tn_good g) h1
  refine ⟨by rw [← inP_tn g]; exact h2, by omega, fun x hx hl => ?_, ?_⟩
  · have := h4 (-x) (by rw [inP_tn g, Int.neg_neg]; exact hx) (by omega)
    omega
  · rcases h5 with z | ⟨z1, z2⟩
    · have z : e = -p.a := z
      exact .inl (by omega)
    · have z2 : e < -high + p.s := z2
      exact .inr ⟨fun k => z1 (Kd.tn_one.mpr k), by omega⟩
theorem nextD_none {p : Pc} {high : Int} (g : p.good) (h : nextD p high = none) (x : Int) (hx : inP p x = true) : high < x := by
  unfold nextD at h
  have := nextU_none (Pc.tn_good g) (Option.map_eq_none_iff.mp h) (-x) (by rw [inP_tn g, Int.neg_neg]; exact hx)
  omega
/-! ### plain sums -/
def gcdI (a b : Int) : Int := ((Nat.gcd a.natAbs b.natAbs : Nat) : Int)
def plainS (m y : Pc) : Pc :=
  if m.k = .one then ⟨y.k, m.a + y.a, y.s⟩
  else if y.k = .one then ⟨m.k, m.a + y.a, m.s⟩
  else ⟨.ev, (m.a + y.a) % gcdI m.s y.s, gcdI m.s y.s⟩
/-- whether a pair is summed plainly -/
def plainC (m y : Pc) : Prop := m.k ≠ y.k ∨ (m.k ≠ .up ∧ m.k ≠ .dn)
theorem gcdI_pos {a b : Int} (h : 1 ≤ a) : 1 ≤ gcdI a b := by
  unfold gcdI
  have := Nat.gcd_pos_of_pos_left b.natAbs (show 0 < a.natAbs by omega)
  omega
theorem gcdI_le {a b : Int} (h : 1 ≤ a) : gcdI a b ≤ a := by
  unfold gcdI
  have := Nat.gcd_le_left b.natAbs (show 0 < a.natAbs by omega)
  omega
theorem gcdI_dvd_left (a b : Int) : gcdI a b ∣ a := Int.gcd_dvd_left a b
theorem gcdI_dvd_right (a b : Int) : gcdI a b ∣ b := Int.gcd_dvd_right a b
theorem plainS_good {m y : Pc} (gm : m.good) (gy : y.good) : (plainS m y).good := by
  unfold plainS Pc.good
  split
  · exact gy
  · split
    · exact gm
    · rename_i h1 h2
      exact fun _ => gcdI_pos (gm h1)
theorem sg_far {k1 k2 : Kd} (h1 : k1 ≠ .one) (h2 : k2 ≠ .one) (c : k1 ≠ k2 ∨ (k1 ≠ .up ∧ k1 ≠ .dn)) {s1 s2 : Int} (p1 : 1 ≤ s1) (p2 : 1 ≤ s2) (u v : Int) : ∃ n : Int, sgK k1 (u + s2 * n) ∧ sgK k2 (v - s1 * n) := by
  have big : ∀ (s : Int) (n : Int), 1 ≤ s → 0 ≤ n → n ≤ s * n := fun s n hs hn => by
    have := Int.mul_le_mul_of_nonneg_right hs hn
    omega
  have hi : sgK k1 (u + s2 * (u.natAbs + v.natAbs : Int)) ∧ sgK k2 (v - s1 * (u.natAbs + v.natAbs : Int)) ∨ sgK k1 (u + s2 * (-(u.natAbs + v.natAbs : Int))) ∧ sgK k2 (v - s1 * (-(u.natAbs + v.natAbs : Int))) := by
    have b1 := big s1 (u.natAbs + v.natAbs) p1 (by omega)
    have b2 := big s2 (u.natAbs + v.natAbs) p2 (by omega)
    rw [Int.mul_neg, Int.mul_neg]
    cases k1 <;> cases k2 <;> simp only [sgK, ne_eq, not_true, false_or, reduceCtorEq, not_false_iff, true_and, and_true, true_or, or_true, and_self, false_and, and_false] at * <;> omega
  rcases hi with h | h
  · exact ⟨_, h⟩
  · exact ⟨_, h⟩
theorem bezN (a b : Nat) : ∃ u v : Int, ((Nat.gcd a b : Nat) : Int) = a * u + b * v := by
  induction a, b using Nat.gcd.induction with
  | H0 n => exact ⟨0, 1, by rw [Nat.gcd_zero_left]; omega⟩
  | H1 m n hm ih =>
    obtain ⟨u, v, h⟩ := ih
    rw [Nat.gcd_rec, h]
    have e := Int.emod_add_mul_ediv (n : Int) m
    refine ⟨v - (n : Int) / m * u, u, ?_⟩
    have e2 : ((n % m : Nat) : Int) = (n : Int) - m * ((n : Int) / m) := by push_cast; omega
    rw [e2, Int.sub_mul, Int.mul_sub, Int.mul_assoc]
    omega
theorem bez {a b c : Int} (h : gcdI a b ∣ c) : ∃ u v : Int, c = a * u + b * v := by
  obtain ⟨t, rfl⟩ := h
  obtain ⟨u, v, e⟩ := bezN a.natAbs b.natAbs
  have sa : ∃ sa : Int, ((a.natAbs : Nat) : Int) = a * sa := by
    rcases Int.natAbs_eq a with z | z
    · exact ⟨1, by omega⟩
    · exact ⟨-1, by omega⟩
  have sb : ∃ sb : Int, ((b.natAbs : Nat) : Int) = b * sb := by
    rcases Int.natAbs_eq b with z | z
    · exact ⟨1, by omega⟩
    · exact ⟨-1, by omega⟩
  obtain ⟨sa, ha⟩ := sa
  obtain ⟨sb, hb⟩ := sb
  refine ⟨sa * u * t, sb * v * t, ?_⟩
  unfold gcdI
  rw [e, ha, hb, Int.add_mul]
  simp only [Int.mul_assoc]
theorem plainS_in {m y : Pc} (gm : m.good) (gy : y.good) (c : plainC m y) (d : Int) : inP (plainS m y) d = true ↔ ∃ x, inP m x = true ∧ inP y (d - x) = true := by
  by_cases h1 : m.k = .one
  · rw [show plainS m y = ⟨y.k, m.a + y.a, y.s⟩ from if_pos h1]
    by_cases h2 : y.k = .one
    · rw [inP_one (p := ⟨y.k, m.a + y.a, y.s⟩) h2]
      constructor
      · intro e
        have e : d = m.a + y.a := e
        exact ⟨m.a, (inP_one h1 _).mpr rfl, (inP_one h2 _).mpr (by omega)⟩
      · rintro ⟨x, e1, e2⟩
        have := (inP_one h1 _).mp e1
        have := (inP_one h2 _).mp e2
        show d = m.a + y.a
        omega
    · rw [inP_iff (p := ⟨y.k, m.a + y.a, y.s⟩) h2 gy]
      constructor
      · rintro ⟨t, ht, e⟩
        have e : d = m.a + y.a + y.s * t := e
        exact ⟨m.a, (inP_one h1 _).mpr rfl, (inP_iff h2 gy _).mpr ⟨t, ht, by omega⟩⟩
      · rintro ⟨x, e1, e2⟩
        have e1 := (inP_one h1 _).mp e1
        obtain ⟨t, ht, e2⟩ := (inP_iff h2 gy _).mp e2
        exact ⟨t, ht, by show d = m.a + y.a + y.s * t; omega⟩
  · by_cases h2 : y.k = .one
    · rw [show plainS m y = ⟨m.k, m.a + y.a, m.s⟩ from by unfold plainS; rw [if_neg h1, if_pos h2], inP_iff (p := ⟨m.k, m.a + y.a, m.s⟩) h1 gm]
      constructor
      · rintro ⟨t, ht, e⟩
        have e : d = m.a + y.a + m.s * t := e
        exact ⟨m.a + m.s * t, (inP_iff h1 gm _).mpr ⟨t, ht, rfl⟩, (inP_one h2 _).mpr (by omega)⟩
      · rintro ⟨x, e1, e2⟩
        have e2 := (inP_one h2 _).mp e2
        obtain ⟨t, ht, e1⟩ := (inP_iff h1 gm _).mp e1
        exact ⟨t, ht, by show d = m.a + y.a + m.s * t; omega⟩
    · have gg := gcdI_pos (b := y.s) (gm h1)
      rw [show plainS m y = ⟨.ev, (m.a + y.a) % gcdI m.s y.s, gcdI m.s y.s⟩ from by unfold plainS; rw [if_neg h1, if_neg h2], inP_iff (p := ⟨.ev, (m.a + y.a) % gcdI m.s y.s, gcdI m.s y.s⟩) (show Kd.ev ≠ Kd.one by decide) (fun _ => gg)]
      have e0 := Int.emod_add_mul_ediv (m.a + y.a) (gcdI m.s y.s)
      constructor
      · rintro ⟨t, _, e⟩
        have e : d = (m.a + y.a) % gcdI m.s y.s + gcdI m.s y.s * t := e
        obtain ⟨u, v, e3⟩ := bez (a := m.s) (b := y.s) (c := d - (m.a + y.a)) ⟨t - (m.a + y.a) / gcdI m.s y.s, by rw [Int.mul_sub]; omega⟩
        obtain ⟨n, s1, s2⟩ := sg_far h1 h2 c (gm h1) (gy h2) u v
        refine ⟨m.a + m.s * (u + y.s * n), (inP_iff h1 gm _).mpr ⟨_, s1, rfl⟩, (inP_iff h2 gy _).mpr ⟨_, s2, ?_⟩⟩
        have e4 : m.s * (y.s * n) = y.s * (m.s * n) := by rw [← Int.mul_assoc, ← Int.mul_assoc, Int.mul_comm m.s]
        rw [Int.mul_add, Int.mul_sub, e4]
        omega
      · rintro ⟨x, e1, e2⟩
        obtain ⟨t, ht, e1⟩ := (inP_iff h1 gm _).mp e1
        obtain ⟨t', ht', e2⟩ := (inP_iff h2 gy _).mp e2
        obtain ⟨a, ha⟩ := gcdI_dvd_left m.s y.s
        obtain ⟨b, hb⟩ := gcdI_dvd_right m.s y.s
        refine ⟨(m.a + y.a) / gcdI m.s y.s + (a * t + b * t'), trivial, ?_⟩
        show d = (m.a + y.a) % gcdI m.s y.s + gcdI m.s y.s * _
        rw [Int.mul_add, Int.mul_add, ← Int.mul_assoc, ← Int.mul_assoc, ← ha, ← hb]
        omega
end Wd
end
section
set_option Elab.async false
set_option linter.all false
set_option maxRecDepth 100000
set_option maxHeartbeats 2000000
set_option pp.maxSteps 900
/-! ### least sums (pure) -/
namespace Wd
open PySem PySem.Spec PyProof.Rows L2 Wt TL NumText
/-- L[r]: the least of start + b * wide (0 <= b, over the pairs, and over the turns below n of the pair c) with this rest -/
structure LsI (s : Int) (prs : List (Int × Int)) (c : Int × Int) (n : Int) (L : List (Option Int)) : Prop where
  len : L.length = s.toNat
  so : ∀ (r : Nat) v, L[r]? = some (some v) → v % s = (r : Nat) ∧ ((∃ pr ∈ prs, ∃ b : Int, 0 ≤ b ∧ v = pr.1 + b * pr.2) ∨ ∃ b : Int, 0 ≤ b ∧ v = c.1 + b * c.2)
  co : ∀ pr ∈ prs, ∀ b : Int, 0 ≤ b → ∃ v, L[((pr.1 + b * pr.2) % s).toNat]? = some (some v) ∧ v ≤ pr.1 + b * pr.2
  cc : ∀ b : Int, 0 ≤ b → b < n → ∃ v, L[((c.1 + b * c.2) % s).toNat]? = some (some v) ∧ v ≤ c.1 + b * c.2
structure Lst (s : Int) (prs : List (Int × Int)) (L : List (Option Int)) : Prop where
  len : L.length = s.toNat
  so : ∀ (r : Nat) v, L[r]? = some (some v) → v % s = (r : Nat) ∧ ∃ pr ∈ prs, ∃ b : Int, 0 ≤ b ∧ v = pr.1 + b * pr.2
  co : ∀ pr ∈ prs, ∀ b : Int, 0 ≤ b → ∃ v, L[((pr.1 + b * pr.2) % s).toNat]? = some (some v) ∧ v ≤ pr.1 + b * pr.2
/-- each rest has a value that is at most m -/
def AllLe (L : List (Option Int)) (m : Int) : Prop := ∀ r : Nat, r < L.length → ∃ v, L[r]? = some (some v) ∧ v ≤ m
theorem Lst.nil {s : Int} (hs : 1 ≤ s) : Lst s [] (List.replicate s.toNat none) := by
  refine ⟨List.length_replicate, fun r v h => ?_, fun pr h => absurd h List.not_mem_nil⟩
  have z := List.mem_of_getElem? h
  have := List.eq_of_mem_replicate z
  cases this
theorem Lst.start {s : Int} {prs : List (Int × Int)} {L : List (Option Int)} (h : Lst s prs L) (c : Int × Int) : LsI s prs c 0 L :=
  ⟨h.len, fun r v e => ⟨(h.so r v e).1, .inl (h.so r v e).2⟩, h.co, fun b h0 h1 => by omega⟩
theorem rest_nat {s x : Int} (hs : 1 ≤ s) : (((x % s).toNat : Nat) : Int) = x % s ∧ (x % s).toNat < s.toNat := by
  have e0 := Int.emod_nonneg x (show s ≠ 0 by omega)
  have e1 := Int.emod_lt_of_pos x (show 0 < s by omega)
  omega
/-- a turn that finds nothing better -/
theorem LsI.keep {s : Int} {prs : List (Int × Int)} {c : Int × Int} {n : Int} {L : List (Option Int)} (h : LsI s prs c n L) (v : Int) (e : L[((c.1 + n * c.2) % s).toNat]? = some (some v)) (hv : v ≤ c.1 + n * c.2) : LsI s prs c (n + 1) L :=
  ⟨h.len, h.so, h.co, fun b h0 h1 => by
    by_cases hb : b = n
    · subst hb
      exact ⟨v, e, hv⟩
    · exact h.cc b h0 (by omega)⟩
/-- a turn that is better -/
theorem LsI.put {s : Int} (hs : 1 ≤ s) {prs : List (Int × Int)} {c : Int × Int} {n : Int} {L : List (Option Int)} (h : LsI s prs c n L) (hn : 0 ≤ n) (hb : ∀ v, L[((c.1 + n * c.2) % s).toNat]? = some (some v) → c.1 + n * c.2 ≤ v) :
    LsI s prs c (n + 1) (L.set ((c.1 + n * c.2) % s).toNat (some (c.1 + n * c.2))) := by
  obtain ⟨r1, r2⟩ := rest_nat (s := s) (x := c.1 + n * c.2) hs
  have at_ : ∀ (r : Nat), (L.set ((c.1 + n * c.2) % s).toNat (some (c.1 + n * c.2)))[r]? = if r = ((c.1 + n * c.2) % s).toNat then some (some (c.1 + n * c.2)) else L[r]? := fun r => by
    by_cases e : r = ((c.1 + n * c.2) % s).toNat
    · rw [if_pos e, e, List.getElem?_set_self (by rw [h.len]; exact r2)]
    · rw [if_neg e, List.getElem?_set_ne (fun z => e z.symm)]
  have low : ∀ x : Int, (∃ v, L[(x % s).toNat]? = some (some v) ∧ v ≤ x) → ∃ v, (L.set ((c.1 + n * c.2) % s).toNat (some (c.1 + n * c.2)))[(x % s).toNat]? = some (some v) ∧ v ≤ x := by
    rintro x ⟨v, e, hv⟩
    rw [at_]
    by_cases er : (x % s).toNat = ((c.1 + n * c.2) % s).toNat
    · rw [if_pos er]
      rw [er] at e
      exact ⟨_, rfl, Int.le_trans (hb v e) hv⟩
    · rw [if_neg er]
      exact ⟨v, e, hv⟩
  refine ⟨by rw [List.length_set]; exact h.len, fun r v e => ?_, fun pr hp b h0 => low _ (h.co pr hp b h0), fun b h0 h1 => ?_⟩
  · rw [at_] at e
    by_cases er : r = ((c.1 + n * c.2) % s).toNat
    · rw [if_pos er] at e
      cases e
      exact ⟨by rw [er, r1], .inr ⟨n, hn, rfl⟩⟩
    · rw [if_neg er] at e
      exact h.so r v e
  · by_cases hbn : b = n
    · subst hbn
      rw [at_, if_pos rfl]
      exact ⟨_, rfl, Int.le_refl _⟩
    · exact low _ (h.cc b h0 (by omega))
theorem AllLe.put {L : List (Option Int)} {m : Int} (h : AllLe L m) {r : Nat} {x : Int} (hx : ∀ v, L[r]? = some (some v) → x ≤ v) : AllLe (L.set r (some x)) m := fun q hq => by
  rw [List.length_set] at hq
  obtain ⟨v, e, hv⟩ := h q hq
  by_cases er : q = r
  · subst er
    rw [List.getElem?_set_self hq]
    exact ⟨x, rfl, Int.le_trans (hx v e) hv⟩
  · rw [List.getElem?_set_ne (fun z => er z.symm)]
    exact ⟨v, e, hv⟩
/-- the pair is done: all of its turns, or nothing more can be better -/
theorem LsI.done {s : Int} (hs : 1 ≤ s) {prs : List (Int × Int)} {c : Int × Int} {L : List (Option Int)} {n : Int} (h : LsI s prs c n L) (hw : 1 ≤ c.2) (e : n = s / gcdI s c.2 ∨ ∃ m, AllLe L m ∧ m ≤ c.1 + n * c.2) : Lst s (prs ++ [c]) L := by
  have all : ∀ b : Int, 0 ≤ b → ∃ v, L[((c.1 + b * c.2) % s).toNat]? = some (some v) ∧ v ≤ c.1 + b * c.2 := fun b h0 => by
    rcases e with rfl | ⟨m, h1, h2⟩
    · have g1 := gcdI_pos (b := c.2) hs
      have gl := gcdI_le (b := c.2) hs
      obtain ⟨q, hq⟩ := gcdI_dvd_left s c.2
      obtain ⟨z, hz⟩ := gcdI_dvd_right s c.2
      have eq : s / gcdI s c.2 = q := Int.ediv_eq_of_eq_mul_right (by omega) hq
      have q1 : 1 ≤ q := by
        by_cases hh : 1 ≤ q
        · exact hh
        · have := (mul_npos_iff g1 (t := q)).mpr (by omega)
          omega
      rw [eq] at h
      have d0 := Int.emod_nonneg b (show q ≠ 0 by omega)
      have d1 := Int.emod_lt_of_pos b (show 0 < q by omega)
      have d2 := Int.emod_add_mul_ediv b q
      have d3 : 0 ≤ b / q := Int.ediv_nonneg h0 (by omega)
      obtain ⟨v, e1, e2⟩ := h.cc (b % q) d0 d1
      -- b * wide = (b % q) * wide + s * (..)
      have e3 : b * c.2 = b % q * c.2 + s * (z * (b / q)) := by
        have : b * c.2 = (b % q + q * (b / q)) * c.2 := by rw [d2]
        rw [this, Int.add_mul]
        have : q * (b / q) * c.2 = s * (z * (b / q)) := by
          rw [hz, Int.mul_comm (q * (b / q)), Int.mul_assoc, Int.mul_left_comm z q, ← Int.mul_assoc, ← hq]
        rw [this]
      have e4 : (c.1 + b * c.2) % s = (c.1 + b % q * c.2) % s := by
        rw [e3, ← Int.add_assoc, Int.add_mul_emod_self_left]
      have z0 : 0 ≤ z := by
        by_cases hh : 0 ≤ z
        · exact hh
        · have := (mul_npos_iff g1 (t := z)).mpr (by omega)
          omega
      have e5 : 0 ≤ s * (z * (b / q)) := Int.mul_nonneg (by omega) (Int.mul_nonneg z0 d3)
      rw [e4]
      exact ⟨v, e1, by omega⟩
    · by_cases hb : b < n
      · exact h.cc b h0 hb
      · obtain ⟨r1, r2⟩ := rest_nat (s := s) (x := c.1 + b * c.2) hs
        obtain ⟨v, e1, e2⟩ := h1 _ (by rw [h.len]; exact r2)
        have := Int.mul_le_mul_of_nonneg_right (show n ≤ b by omega) (show 0 ≤ c.2 by omega)
        exact ⟨v, e1, by omega⟩
  refine ⟨h.len, fun r v e => ⟨(h.so r v e).1, ?_⟩, fun pr hp b h0 => ?_⟩
  · rcases (h.so r v e).2 with ⟨pr, hp, z⟩ | z
    · exact ⟨pr, List.mem_append_left _ hp, z⟩
    · exact ⟨c, List.mem_append_right _ (List.mem_singleton.mpr rfl), z⟩
  · rcases List.mem_append.mp hp with hp | hp
    · exact h.co pr hp b h0
    · rw [List.mem_singleton.mp hp]
      exact all b h0
/-! ### upward sums -/
/-- what _upward_sums knows of a pair: the narrow step, the sum of the starts, the wide step -/
def pairU (m y : Pc) : Int × Int × Int := (min m.s y.s, m.a + y.a, max m.s y.s)
def pairsU (ps qs : List Pc) : List (Int × Int × Int) := ((ps.filter fun p => decide (p.k = .up)).map fun m => (qs.filter fun p => decide (p.k = .up)).map fun y => pairU m y).flatten
theorem mem_pairsU {ps qs : List Pc} {x : Int × Int × Int} : x ∈ pairsU ps qs ↔ ∃ m ∈ ps, ∃ y ∈ qs, m.k = .up ∧ y.k = .up ∧ x = pairU m y := by
  unfold pairsU
  rw [List.mem_flatten]
  constructor
  · rintro ⟨l, hl, hx⟩
    obtain ⟨m, hm, rfl⟩ := List.mem_map.mp hl
    obtain ⟨y, hy, rfl⟩ := List.mem_map.mp hx
    rw [List.mem_filter, decide_eq_true_iff] at hm hy
    exact ⟨m, hm.1, y, hy.1, hm.2, hy.2, rfl⟩
  · rintro ⟨m, hm, y, hy, km, ky, rfl⟩
    exact ⟨_, List.mem_map.mpr ⟨m, List.mem_filter.mpr ⟨hm, decide_eq_true km⟩, rfl⟩, List.mem_map.mpr ⟨y, List.mem_filter.mpr ⟨hy, decide_eq_true ky⟩, rfl⟩⟩
/-- the pairs of a narrow step -/
def prsOf (T : List (Int × Int × Int)) (s : Int) : List (Int × Int) := (T.filter fun t => decide (t.1 = s)).map (·.2)
/-- a row of rests as pieces -/
def upsOf (s : Int) (L : List (Option Int)) : List Pc := (L.filterMap id).map fun v => ⟨.up, v, s⟩
/-- up pieces that stand for all sums of T -/
structure UpS (T : List (Int × Int × Int)) (us : List Pc) : Prop where
  up : ∀ p ∈ us, p.k = .up ∧ ∃ t ∈ T, p.s = t.1
  so : ∀ p ∈ us, ∃ t ∈ T, p.s = t.1 ∧ ∃ b : Int, 0 ≤ b ∧ p.a = t.2.1 + b * t.2.2
  co : ∀ t ∈ T, ∀ b : Int, 0 ≤ b → ∃ p ∈ us, p.s = t.1 ∧ p.a ≤ t.2.1 + b * t.2.2 ∧ ∃ n : Int, t.2.1 + b * t.2.2 = p.a + p.s * n
theorem upS_of {T : List (Int × Int × Int)} {ss : List Int} (hss : ∀ s, s ∈ ss ↔ ∃ t ∈ T, t.1 = s) (pos : ∀ s ∈ ss, 1 ≤ s) {Ls : Int → List (Option Int)} (hL : ∀ s ∈ ss, Lst s (prsOf T s) (Ls s)) : UpS T ((ss.map fun s => upsOf s (Ls s)).flatten) := by
  have mem : ∀ p : Pc, p ∈ (ss.map fun s => upsOf s (Ls s)).flatten ↔ ∃ s ∈ ss, ∃ v, some v ∈ Ls s ∧ p = ⟨.up, v, s⟩ := fun p => by
    rw [List.mem_flatten]
    constructor
    · rintro ⟨l, hl, hp⟩
      obtain ⟨s, hs, rfl⟩ := List.mem_map.mp hl
      obtain ⟨v, hv, rfl⟩ := List.mem_map.mp hp
      obtain ⟨o, ho, e⟩ := List.mem_filterMap.mp hv
      exact ⟨s, hs, v, (show o = some v from e) ▸ ho, rfl⟩
    · rintro ⟨s, hs, v, hv, rfl⟩
      exact ⟨_, List.mem_map.mpr ⟨s, hs, rfl⟩, List.mem_map.mpr ⟨v, List.mem_filterMap.mpr ⟨some v, hv, rfl⟩, rfl⟩⟩
  have soo : ∀ p ∈ (ss.map fun s => upsOf s (Ls s)).flatten, p.k = .up ∧ ∃ t ∈ T, p.s = t.1 ∧ ∃ b : Int, 0 ≤ b ∧ p.a = t.2.1 + b * t.2.2 := fun p hp => by
    obtain ⟨s, hs, v, hv, rfl⟩ := (mem p).mp hp
    obtain ⟨r, hr⟩ := List.mem_iff_getElem?.mp hv
    obtain ⟨_, pr, hpr, b, b0, e⟩ := (hL s hs).so r v hr
    obtain ⟨t, ht, rfl⟩ := List.mem_map.mp hpr
    rw [List.mem_filter, decide_eq_true_iff] at ht
    exact ⟨rfl, t, ht.1, ht.2.symm, b, b0, e⟩
  refine ⟨fun p hp => ?_, fun p hp => (soo p hp).2, fun t ht b b0 => ?_⟩
  · obtain ⟨h1, t, ht, h2, _⟩ := soo p hp
    exact ⟨h1, t, ht, h2⟩
  · have hs := (hss t.1).mpr ⟨t, ht, rfl⟩
    obtain ⟨v, e, hv⟩ := (hL t.1 hs).co t.2 (List.mem_map.mpr ⟨t, List.mem_filter.mpr ⟨ht, decide_eq_true rfl⟩, rfl⟩) b b0
    have hm := List.mem_of_getElem? e
    refine ⟨⟨.up, v, t.1⟩, (mem _).mpr ⟨t.1, hs, v, hm, rfl⟩, rfl, hv, ?_⟩
    obtain ⟨hr, _⟩ := (hL t.1 hs).so _ v e
    have p1 := pos t.1 hs
    have hr2 := (rest_nat (s := t.1) (x := t.2.1 + b * t.2.2) p1).1
    rw [hr2] at hr
    have hr3 : (t.2.1 + b * t.2.2 - v) % t.1 = 0 := Int.emod_eq_emod_iff_emod_sub_eq_zero.mp hr.symm
    obtain ⟨n, hn⟩ := dvd_param hr3
    exact ⟨n, by show _ = v + t.1 * n; omega⟩
theorem upS_in {ps qs : List Pc} {us : List Pc} {T : List (Int × Int × Int)} (hT : ∀ t, t ∈ T ↔ t ∈ pairsU ps qs) (h : UpS T us) (gp : ∀ p ∈ ps, p.good) (gq : ∀ p ∈ qs, p.good) (d : Int) :
    inPs us d = true ↔ ∃ m ∈ ps, ∃ y ∈ qs, m.k = .up ∧ y.k = .up ∧ ∃ x, inP m x = true ∧ inP y (d - x) = true := by
  have nu : ∀ {p : Pc}, p.k = .up → p.k ≠ .one := fun e => by rw [e]; decide
  have sp : ∀ {m y : Pc}, m ∈ ps → y ∈ qs → m.k = .up → y.k = .up → 1 ≤ min m.s y.s := fun hm hy km ky => by
    have := gp _ hm (nu km)
    have := gq _ hy (nu ky)
    omega
  have gu : ∀ p ∈ us, p.good := fun p hp _ => by
    obtain ⟨_, t, ht, e⟩ := h.up p hp
    obtain ⟨m, hm, y, hy, km, ky, rfl⟩ := mem_pairsU.mp ((hT t).mp ht)
    rw [e]
    exact sp hm hy km ky
  rw [inPs_iff]
  constructor
  · rintro ⟨p, hp, hi⟩
    obtain ⟨ku, _⟩ := h.up p hp
    obtain ⟨t, ht, es, b, b0, ea⟩ := h.so p hp
    obtain ⟨m, hm, y, hy, km, ky, rfl⟩ := mem_pairsU.mp ((hT t).mp ht)
    obtain ⟨n, hn, rfl⟩ := (inP_iff (nu ku) (gu p hp) _).mp hi
    rw [ku] at hn
    refine ⟨m, hm, y, hy, km, ky, ?_⟩
    have es : p.s = min m.s y.s := es
    have ea : p.a = m.a + y.a + b * max m.s y.s := ea
    by_cases hle : m.s ≤ y.s
    · rw [Int.min_eq_left hle] at es
      rw [Int.max_eq_right hle] at ea
      refine ⟨m.a + m.s * n, (inP_iff (nu km) (gp m hm) _).mpr ⟨n, by rw [km]; exact hn, rfl⟩, (inP_iff (nu ky) (gq y hy) _).mpr ⟨b, by rw [ky]; exact b0, ?_⟩⟩
      rw [ea, es, Int.mul_comm y.s]
      omega
    · have hle : y.s ≤ m.s := by omega
      rw [Int.min_eq_right hle] at es
      rw [Int.max_eq_left hle] at ea
      refine ⟨m.a + m.s * b, (inP_iff (nu km) (gp m hm) _).mpr ⟨b, by rw [km]; exact b0, rfl⟩, (inP_iff (nu ky) (gq y hy) _).mpr ⟨n, by rw [ky]; exact hn, ?_⟩⟩
      rw [ea, es, Int.mul_comm m.s]
      omega
  · rintro ⟨m, hm, y, hy, km, ky, x, h1, h2⟩
    obtain ⟨i, hi, rfl⟩ := (inP_iff (nu km) (gp m hm) _).mp h1
    obtain ⟨j, hj, h2⟩ := (inP_iff (nu ky) (gq y hy) _).mp h2
    rw [km] at hi
    rw [ky] at hj
    have hi : 0 ≤ i := hi
    have hj : 0 ≤ j := hj
    have key : ∃ b n : Int, 0 ≤ b ∧ 0 ≤ n ∧ d = m.a + y.a + b * max m.s y.s + min m.s y.s * n := by
      by_cases hle : m.s ≤ y.s
      · rw [Int.min_eq_left hle, Int.max_eq_right hle]
        exact ⟨j, i, hj, hi, by rw [Int.mul_comm j]; omega⟩
      · rw [Int.min_eq_right (by omega), Int.max_eq_left (by omega)]
        exact ⟨i, j, hi, hj, by rw [Int.mul_comm i]; omega⟩
    obtain ⟨b, n, b0, n0, e⟩ := key
    obtain ⟨p, hp, es, hle, n', en⟩ := h.co (pairU m y) ((hT _).mpr (mem_pairsU.mpr ⟨m, hm, y, hy, km, ky, rfl⟩)) b b0
    obtain ⟨ku, _⟩ := h.up p hp
    have p1 := gu p hp (nu ku)
    refine ⟨p, hp, (inP_iff (nu ku) (gu p hp) _).mpr ⟨n' + n, ?_, ?_⟩⟩
    · rw [ku]
      have en : m.a + y.a + b * max m.s y.s = p.a + p.s * n' := en
      have hle : p.a ≤ m.a + y.a + b * max m.s y.s := hle
      have := (mul_pos_iff p1 (t := n')).mp (by omega)
      show 0 ≤ n' + n
      omega
    · have en : m.a + y.a + b * max m.s y.s = p.a + p.s * n' := en
      have es : p.s = min m.s y.s := es
      rw [e, en, Int.mul_add, ← es]
      omega
end Wd
end
section
set_option Elab.async false
set_option linter.all false
set_option maxRecDepth 100000
set_option maxHeartbeats 2000000
set_option pp.maxSteps 900
/-! ### _starts -/
namespace Wd
open PySem PySem.Spec PyProof.Rows L2 Wt TL NumText
def spStarts : Sp := fun vs H Q _ => ∃ (a : Addr) (xs : List V) (ps : List Pc) (k0 : Kd), vs = [.ref a, .str k0.w] ∧ k0 ≠ .one ∧ H a = some (.tup xs) ∧ PcsA H xs ps ∧ ps.length ≤ 1000 ∧ (∀ p ∈ ps, p.good) ∧ ∀ u H', Same H H' → StA H' u ps k0 → Q (.ref u) H'
section
variable {P : Program} {w : World} {K : PySem.W.Frag} {mg : Str → Option Value} {base : Heap} {f : Addr} {fd : FuncData}
theorem scStarts : FnScope ["pieces", "word", "found", "piece", "_", "start", "step", "key"] ["pieces", "word"] (defScope (top i__starts)) := ⟨rfl, rfl, rfl, by decide +kernel, rfl, by decide +kernel, by decide +kernel⟩
theorem ok_starts (F : FnG K "_starts" i__starts f fd) (T : Tx K mg) : FnOk P w K mg base CX0 1 f fd ["pieces", "word"] spStarts := by
  refine F.ok scStarts (fun vs H Q E h => ?_) (fun cdv A outer s H vs Q E hr h => ?_)
  · obtain ⟨a, xs, ps, k0, rfl, _⟩ := h
    rfl
  · obtain ⟨a, xs, ps, k0, rfl, hk1, hx, hps, hn, hg, k⟩ := h
    have hu := hu_of hr
    refine ⟨_, PSs.nox (pss_cons (ps_set (i := 2) scStarts.nd rfl (Or.inl rfl) pe_dnewT)
        (pss_cons (ps_for PassesOwn.never rfl (pi_tup (pv 0)) (pg_name (i := 3) scStarts.nd rfl (Or.inl rfl)) (pss_one (ps_if (pt_cmpR op_eq (pe_ix ix_tup (pv 3) pe_int (fun _ _ => rfl)) (pv 1) (nomark _)) (pss_cons (ps_asg (pv 3) (pg_tup rfl (pgs_cons (pg_name (i := 4) scStarts.nd rfl (Or.inl rfl)) (pgs_cons (pg_name (i := 5) scStarts.nd rfl (Or.inl rfl)) (pgs_cons (pg_name (i := 6) scStarts.nd rfl (Or.inl rfl)) pgs_nil)))))
        (pss_cons (ps_set (i := 7) scStarts.nd rfl (Or.inl rfl) (pe_tup (pa_cons (pv 6) (pa_cons (pe_op op_mod (pv 5) (pv 6)) pa_nil))))
        (pss_one (ps_if (PW.pt (pw_or (pt_cmp (pc_dnotin hu (pv 7) (pv 2))) (pw_or1 (pt_ifE (pt_cmpR op_eq (pv 1) pe_str (nomark _)) (pt_cmpR op_gt (pv 5) (pe_dget hu (pv 2) (pv 7) (fun _ _ => rfl)) (nomark _)) (pt_cmpR op_lt (pv 5) (pe_dget hu (pv 2) (pv 7) (fun _ _ => rfl)) (nomark _)))))) (pss_one (ps_dput hu (pv 2) (pv 7) (pv 5) rfl)) pss_nil)))) pss_nil)))
        (pss_one (ps_ret (pv 2))))), ?_⟩
    refine fun u hu0 => ?_
    have sU := same_upd (o := HO.dT []) hu0
    refine ⟨_, rfl, a, rfl, ⟨xs, SqT.of (sU _ _ hx)⟩, for_tup (xs := xs)
      (fun i σ H' => ∃ (x3 x4 x5 x6 x7 : Option V) (kvs : List (List Key × V)), σ = [some (.ref a), some (.str k0.w), some (.ref u), x3, x4, x5, x6, x7] ∧ Same H H' ∧ H' u = some (.dT kvs) ∧ kvs.length ≤ i ∧ ∀ s r : Int, valV kvs [Sum.inl s, Sum.inl r] = (bestK k0 s r (ps.take i)).map V.int)
      ⟨_, _, _, _, _, [], rfl, sU, upd_same, Nat.le_refl _, fun s r => rfl⟩ (fun i σ H' _ q => ?_) ?_ ?_⟩
    · obtain ⟨_, _, _, _, _, _, _, z, _⟩ := q
      exact SqT.of (z _ _ hx)
    · rintro i v σ H1 hvx ⟨x3, x4, x5, x6, x7, kvs, rfl, s1, hq, hl, hv⟩
      obtain ⟨p, hp, pa, rfl, pq⟩ := hps.at hvx
      have hpm := List.mem_of_getElem? hp
      have htk : ps.take (i + 1) = ps.take i ++ [p] := by rw [List.take_add_one, hp]; rfl
      have pq1 := s1 _ _ pq
      have at0 : atI p.vals 0 = some (.str p.k.w) := by
        unfold Pc.vals
        split
        · rename_i e
          rw [e]
          rfl
        · rfl
      refine ⟨_, rfl, pa, _, _, _, rfl, rfl, SqT.of pq1, at0, ?_⟩
      refine ⟨_, rfl, rfl, _, rfl, ifQ (fun e => ?_) (fun e => ?_)⟩
      · have ek : p.k = k0 := Kd.w_inj (V.str.inj (of_decide_eq_true e))
        have ev : p.vals = [.str k0.w, .int p.a, .int p.s] := by
          unfold Pc.vals
          rw [if_neg (by rw [ek]; exact hk1), ek]
        rw [ev] at pq1
        have gs := hg p hpm (by rw [ek]; exact hk1)
        refine ⟨_, rfl, pa, _, rfl, SqT.of pq1, rfl, ?_⟩
        refine ⟨_, _, rfl, _, _, rfl, _, _, rfl, rfl, ?_⟩
        refine ⟨_, rfl, _, rfl, _, rfl, p.a, p.s, rfl, rfl, by omega, (by show 2 ≤ sizeLine; decide), fun t ht => ?_⟩
        have s2 := same_upd (o := HO.tup [.int p.s, .int (p.a % p.s)]) ht
        have tq : (upd H1 t (HO.tup [.int p.s, .int (p.a % p.s)])) t = some (.tup ([Sum.inl p.s, Sum.inl (p.a % p.s)].map kV)) := upd_same
        have hq2 := s2 _ _ hq
        have s12 := s1.trans s2
        generalize upd H1 t (HO.tup [.int p.s, .int (p.a % p.s)]) = H2 at s2 tq hq2 s12 ⊢
        have hvk := hv p.s (p.a % p.s)
        have put : ∀ y : Option Int, bestStep k0 p.s (p.a % p.s) (bestK k0 p.s (p.a % p.s) (ps.take i)) p = some p.a → ∃ (x3 x4 x5 x6 x7 : Option V) (kvs' : List (List Key × V)), [some (V.ref a), some (.str k0.w), some (.ref u), some (.ref pa), some (.str k0.w), some (.int p.a), some (.int p.s), some (.ref t)] = [some (.ref a), some (.str k0.w), some (.ref u), x3, x4, x5, x6, x7] ∧
            Same H (upd H2 u (.dT (putK kvs [Sum.inl p.s, Sum.inl (p.a % p.s)] (.int p.a)))) ∧ (upd H2 u (.dT (putK kvs [Sum.inl p.s, Sum.inl (p.a % p.s)] (.int p.a)))) u = some (.dT kvs') ∧ kvs'.length ≤ i + 1 ∧ ∀ s r : Int, valV kvs' [Sum.inl s, Sum.inl r] = (bestK k0 s r (ps.take (i + 1))).map V.int := fun _ hb => by
          refine ⟨_, _, _, _, _, _, rfl, fun b o z => ?_, upd_same, ?_, fun s r => ?_⟩
          · rw [upd_ne (ne_of_none z hu0)]
            exact s12 _ _ z
          · have := length_putK kvs [Sum.inl p.s, Sum.inl (p.a % p.s)] (.int p.a)
            omega
          · rw [valV_put, htk, best_snoc]
            by_cases hsr : s = p.s ∧ r = p.a % p.s
            · obtain ⟨rfl, rfl⟩ := hsr
              rw [if_pos rfl, hb]
              rfl
            · rw [if_neg (fun z => hsr (by injection z with z1 z2; injection z2 with z2 _; exact ⟨Sum.inl.inj z1, Sum.inl.inj z2⟩)), hv]
              unfold bestStep
              rw [if_neg fun z => hsr ⟨z.2.1.symm, by rw [z.2.1] at *; exact z.2.2.symm⟩]
        have keep : bestStep k0 p.s (p.a % p.s) (bestK k0 p.s (p.a % p.s) (ps.take i)) p = bestK k0 p.s (p.a % p.s) (ps.take i) → ∀ s r : Int, valV kvs [Sum.inl s, Sum.inl r] = (bestK k0 s r (ps.take (i + 1))).map V.int := fun hb s r => by
          rw [hv, htk, best_snoc]
          by_cases hsr : s = p.s ∧ r = p.a % p.s
          · obtain ⟨rfl, rfl⟩ := hsr
            rw [hb]
          · unfold bestStep
            rw [if_neg fun z => hsr ⟨z.2.1.symm, by rw [z.2.1] at *; exact z.2.2.symm⟩]
        refine ⟨_, rfl, _, rfl, u, _, rfl, DGet.t hq2 tq, _, rfl, ?_⟩
        have hmt : p.k = k0 ∧ p.s = p.s ∧ p.a % p.s = p.a % p.s := ⟨ek, rfl, rfl⟩
        have hix : i < xs.length := (List.getElem?_eq_some_iff.mp hvx).1
        have hxl := hps.len
        cases eo : bestK k0 p.s (p.a % p.s) (ps.take i) with
        | none =>
          rw [eo] at hvk put
          rw [hvk]
          refine ifB rfl (ifB rfl ?_)
          refine ⟨_, rfl, _, rfl, _, rfl, u, _, rfl, DPut.t hq2 tq (by have := sizeLine_eq; omega), ?_⟩
          exact put none (best_none hmt)
        | some b =>
          rw [eo] at hvk put keep
          rw [hvk]
          refine ifN rfl ?_
          have hg1 : ∀ {Q : V → Hp → Prop}, Q (.int b) H2 → tDGet (tVar 2) (tVar 7) [some (V.ref a), some (.str k0.w), some (.ref u), some (.ref pa), some (.str k0.w), some (.int p.a), some (.int p.s), some (.ref t)] H2 Q := fun h => ⟨_, rfl, _, rfl, u, .int b, rfl, (by have z := DGet.t hq2 tq; rw [hvk] at z; exact z), h⟩
          refine ⟨_, rfl, rfl, _, rfl, ifQ (fun e => ?_) (fun e => ?_)⟩
          · have ed : k0 = .dn := Kd.w_inj (V.str.inj (of_decide_eq_true e))
            have ef : fartherK k0 p.a b = decide (b < p.a) := if_pos ed
            refine ⟨_, rfl, hg1 ⟨_, _, rfl, rfl, _, rfl, ifQ (fun e2 => ?_) (fun e2 => ?_)⟩⟩
            · exact ⟨_, rfl, _, rfl, _, rfl, u, _, rfl, DPut.t hq2 tq (by have := sizeLine_eq; omega), put none (best_yes hmt (ef.trans e2))⟩
            · exact ⟨_, _, _, _, _, kvs, rfl, s12, hq2, by omega, keep (best_no hmt (ef.trans e2))⟩
          · have ed : k0 ≠ .dn := fun z => (of_decide_eq_false e) (by rw [z]; rfl)
            have ef : fartherK k0 p.a b = decide (p.a < b) := if_neg ed
            refine ⟨_, rfl, hg1 ⟨_, _, rfl, rfl, _, rfl, ifQ (fun e2 => ?_) (fun e2 => ?_)⟩⟩
            · exact ⟨_, rfl, _, rfl, _, rfl, u, _, rfl, DPut.t hq2 tq (by have := sizeLine_eq; omega), put none (best_yes hmt (ef.trans e2))⟩
            · exact ⟨_, _, _, _, _, kvs, rfl, s12, hq2, by omega, keep (best_no hmt (ef.trans e2))⟩
      · have ne : p.k ≠ k0 := fun h => (of_decide_eq_false e) (by rw [h])
        refine ⟨_, _, _, _, _, kvs, rfl, s1, hq, by omega, fun s r => ?_⟩
        rw [htk, best_snoc, hv]
        unfold bestStep
        rw [if_neg fun z => ne z.1]
    · rintro σ H1 ⟨x3, x4, x5, x6, x7, kvs, rfl, s1, hq, hl, hv⟩
      have hv : ∀ s r : Int, valV kvs [Sum.inl s, Sum.inl r] = (bestK k0 s r ps).map V.int := fun s r => by rw [hv, hps.len, List.take_length]
      exact ⟨_, rfl, k u H1 s1 ⟨kvs, hq, by rw [← hps.len]; exact hl, hv⟩⟩
end
end Wd
end
section
set_option Elab.async false
set_option linter.all false
set_option maxRecDepth 100000
set_option maxHeartbeats 2000000
set_option pp.maxSteps 900
/-! ### Days._steps_on, __contains__ -/
namespace Wd
open PySem PySem.Spec PyProof.Rows L2 Wt TL NumText
def spStepsOn (K : PySem.W.Frag) : Sp := fun vs H Q _ => ∃ (a : Addr) (ps : List Pc) (d s : Int), vs = [.ref a, .int d, .int s] ∧ DayA K H a ps ∧ 1 ≤ s ∧ ∀ H', Same H H' → Q (.bl (stepsOn ps d s)) H'
def spContains (K : PySem.W.Frag) : Sp := fun vs H Q _ => ∃ (a : Addr) (ps : List Pc) (d : Int), vs = [.ref a, .int d] ∧ DayA K H a ps ∧ ∀ H', Same H H' → Q (.bl (inPs ps d)) H'
section
variable {P : Program} {w : World} {K : PySem.W.Frag} {mg : Str → Option Value} {base : Heap} {f : Addr} {fd : FuncData}
theorem scStepsOn : FnScope ["self", "day", "step", "key"] ["self", "day", "step"] (defScope (inClass (top i_Days) j_Days__steps_on)) := ⟨rfl, rfl, rfl, by decide +kernel, rfl, by decide +kernel, by decide +kernel⟩
theorem ok_stepsOn (F : FunD K "_steps_on" "Days._steps_on" (defArgs (inClass (top i_Days) j_Days__steps_on)) (defBody (inClass (top i_Days) j_Days__steps_on)) (defScope (inClass (top i_Days) j_Days__steps_on)) [] [] f fd) (T : Tx K mg) :
    FnOk P w K mg base CX0 1 f fd ["self", "day", "step"] (spStepsOn K) := by
  refine F.ok scStepsOn (fun vs H Q E h => ?_) (fun cdv A outer s H vs Q E hr h => ?_)
  · obtain ⟨a, ps, d, s, rfl, _⟩ := h
    rfl
  · obtain ⟨a, ps, d, s, rfl, da, hs, k⟩ := h
    have hu := hu_of hr
    refine ⟨_, PSs.nox (pss_cons (ps_set (i := 3) scStepsOn.nd rfl (Or.inl rfl) (pe_tup (pa_cons (pv 2) (pa_cons (pe_op op_mod (pv 1) (pv 2)) pa_nil))))
        (pss_cons (ps_if (pt_cmp (pc_din hu (pv 3) (pe_fld (pv 0) rfl))) (pss_one (ps_ret pe_bl)) pss_nil)
        (pss_cons (ps_if (PW.pt (pw_and (pt_cmp (pc_din hu (pv 3) (pe_fld (pv 0) rfl))) (pw_and1 (pt_cmpR op_le (pe_dget hu (pe_fld (pv 0) rfl) (pv 3) (fun _ _ => rfl)) (pv 1) (nomark _))))) (pss_one (ps_ret pe_bl)) pss_nil)
        (pss_one (ps_ret (pe_and (pe_cmp (pc_din hu (pv 3) (pe_fld (pv 0) rfl))) (pe_one (pe_cmpR op_ge (pe_dget hu (pe_fld (pv 0) rfl) (pv 3) (fun _ _ => rfl)) (pv 1) (nomark _))))))))), ?_⟩
    obtain ⟨dx, po, o, u, n, e, st, xs, okv, ns, h1, _, _, _, _, ⟨ku, u1, _, vu⟩, ⟨kn, n1, _, vn⟩, ⟨ke, e1, _, ve⟩, _, _, _⟩ := da.ex
    refine ⟨_, rfl, _, rfl, _, rfl, d, s, rfl, rfl, by omega, (by show 2 ≤ sizeLine; decide), fun t ht => ?_⟩
    have s1 := same_upd (o := HO.tup [.int s, .int (d % s)]) ht
    have tq : (upd H t (HO.tup [.int s, .int (d % s)])) t = some (.tup ([Sum.inl s, Sum.inl (d % s)].map kV)) := upd_same
    generalize upd H t (HO.tup [.int s, .int (d % s)]) = H1 at s1 tq ⊢
    have hd1 := s1 _ _ h1
    have gu := DGet.t (s1 _ _ u1) tq
    have gn := DGet.t (s1 _ _ n1) tq
    have ge := DGet.t (s1 _ _ e1) tq
    rw [vu] at gu
    rw [vn] at gn
    rw [ve] at ge
    have k1 := k _ s1
    unfold stepsOn at k1
    refine ⟨_, rfl, _, rfl, a, _, dx, _, .ref e, rfl, hd1, T.cl, T.n5, rfl, e, _, rfl, ge, _, rfl, ?_⟩
    cases he : bestK .ev s (d % s) ps with
    | some b =>
      rw [he] at k1
      exact ifB rfl k1
    | none =>
      rw [he] at k1
      refine ifN rfl ?_
      dsimp only [tNext, gName]
      refine seq_by (fun σ' H' => σ' = [some (.ref a), some (.int d), some (.int s), some (.ref t)] ∧ H' = H1 ∧ upO (bestK .up s (d % s) ps) d = false) (fun Nx hN => ?_) ?_
      · refine ⟨_, rfl, _, rfl, a, _, dx, _, .ref u, rfl, hd1, T.cl, T.n3, rfl, u, _, rfl, gu, _, rfl, ?_⟩
        cases hb : bestK .up s (d % s) ps with
        | none => exact ifN rfl (ifN rfl (hN _ _ ⟨rfl, rfl, by rw [hb]; rfl⟩))
        | some b =>
          rw [hb] at gu k1
          refine ifB rfl ?_
          refine ⟨_, rfl, a, _, dx, _, .ref u, rfl, hd1, T.cl, T.n3, rfl, _, rfl, u, .int b, rfl, gu, _, rfl, b, d, rfl, rfl, _, rfl, ifQ (fun e => ?_) (fun e => ?_)⟩
          · have k1 : Q (.bl (false || (decide (b ≤ d) || _))) H1 := k1
            rw [e] at k1
            exact k1
          · exact hN _ _ ⟨rfl, rfl, by rw [hb]; exact e⟩
      · rintro _ _ ⟨rfl, rfl, e3⟩
        rw [e3] at k1
        refine ⟨_, rfl, _, rfl, a, _, dx, _, .ref n, rfl, hd1, T.cl, T.n4, rfl, n, _, rfl, gn, ?_⟩
        cases hb : bestK .dn s (d % s) ps with
        | none =>
          rw [hb] at k1
          exact ⟨_, rfl, ifN rfl k1⟩
        | some b =>
          rw [hb] at k1 gn
          refine ⟨_, rfl, ifB rfl ?_⟩
          refine ⟨_, rfl, a, _, dx, _, .ref n, rfl, hd1, T.cl, T.n4, rfl, _, rfl, n, .int b, rfl, gn, _, rfl, b, d, rfl, rfl, k1⟩
structure DCon (P : Program) (w : World) (K : PySem.W.Frag) (mg : Str → Option Value) (base : Heap) : Prop where
  is_integer : Df P w K mg base CX0 1 "is_integer" ["value"] spIsInt
  stepsOn : Md P w K mg base (He.ga K "Days") CX0 1 "_steps_on" ["self", "day", "step"] (spStepsOn K)
  any : mg "any" = none
theorem scContains : FnScope ["self", "day", "step"] ["self", "day"] (defScope (inClass (top i_Days) j_Days___contains__)) := ⟨rfl, rfl, rfl, by decide +kernel, rfl, by decide +kernel, by decide +kernel⟩
theorem ok_contains (F : FunD K "__contains__" "Days.__contains__" (defArgs (inClass (top i_Days) j_Days___contains__)) (defBody (inClass (top i_Days) j_Days___contains__)) (defScope (inClass (top i_Days) j_Days___contains__)) [] [] f fd) (T : Tx K mg) (D : DCon P w K mg base) :
    FnOk P w K mg base CX0 2 f fd ["self", "day"] (spContains K) := by
  refine F.ok scContains (fun vs H Q E h => ?_) (fun cdv A outer s H vs Q E hr h => ?_)
  · obtain ⟨a, ps, d, rfl, _⟩ := h
    rfl
  · obtain ⟨a, ps, d, rfl, da, k⟩ := h
    have hu := hu_of hr
    refine ⟨_, PSs.nox (pss_cons (ps_if (pt_not (pt_val (pe_cd D.is_integer (hr.mono (by decide)) pass0 (pa_cons (pv 1) pa_nil)))) (pss_one (ps_ret pe_bl)) pss_nil)
        (pss_one (ps_ret (pe_or (pe_cmp (pc_din hu (pv 1) (pe_fld (pv 0) rfl))) (pe_one (pe_callB (cr_any rfl) (by rfl) D.any (by decide +kernel) (pa_cons (pe_lc (own := [("step", 2)]) rfl scContains.nd (pi_tup (pe_fld (pv 0) rfl)) (blkOk_by (own := [("step", 2)]) (N := ["self", "day", "step"]) (sc := defScope (inClass (top i_Days) j_Days___contains__)) (by decide +kernel)) (fun _ _ _ _ _ => (pg_name (i := 2) scContains.nd rfl (Or.inl rfl))) (fun _ _ _ _ _ => pts_nil) (fun _ _ _ _ _ => (pe_md D.stepsOn (pv 0) T.cl (hr.mono (by decide)) pass0 (pa_cons (pv 1) (pa_cons (pv 2) pa_nil))))) pa_nil))))))), ?_⟩
    obtain ⟨dx, po, o, u, n, e, st, xs, okv, ns, h1, _, _, o1, vo, _, _, _, st1, hns, hnl, _⟩ := da.ex
    have e2 := in_days hns d
    refine ⟨_, rfl, .int d, true, rfl, .int d, true, rfl, iteF ?_⟩
    refine ⟨_, rfl, _, rfl, a, _, dx, _, .ref o, rfl, h1, T.cl, T.n2, rfl, o, _, rfl, DGet.k (k := Sum.inl d) o1, _, rfl, ?_⟩
    rw [vo]
    cases hh : onesHas ps d with
    | true =>
      rw [hh] at e2
      rw [← e2] at k
      exact ifB rfl (k _ (Same.refl _))
    | false =>
      rw [hh, Bool.false_or] at e2
      refine ifN rfl ?_
      refine ⟨_, rfl, a, _, dx, _, .ref st, rfl, h1, T.cl, T.n6, rfl, st, rfl, ⟨_, SqT.of st1⟩, fun lB hlB => lc_tup (xs := ns.map V.int) (fun i H' => Same H H' ∧ H' lB = some (.lst (((ns.map (stepsOn ps d)).take i).map V.bl))) ⟨same_upd hlB, upd_same⟩ (fun i H' _ z => SqT.of (z.1 _ _ st1)) ?_ ?_⟩
      · rintro i x H2 hvx ⟨s2, q2⟩
        obtain ⟨m, hm, rfl⟩ : ∃ m, ns[i]? = some m ∧ V.int m = x := by
          rw [List.getElem?_map] at hvx
          exact Option.map_eq_some_iff.mp hvx
        obtain ⟨p, hp, pk, ps1⟩ := (hns m).mp (List.mem_of_getElem? hm)
        have hs1 : 1 ≤ m := ps1 ▸ da.gd p hp pk
        have hix := (List.getElem?_eq_some_iff.mp hm).1
        refine ⟨rfl, iteT (B := Same H H2 ∧ H2 lB = some (.lst (((ns.map (stepsOn ps d)).take (i + 1)).map V.bl))) ?_⟩
        refine ⟨_, rfl, a, dx, _, rfl, s2 _ _ h1, rfl, _, rfl, _, rfl, ?_⟩
        refine ⟨a, ps, d, m, rfl, da.same s2, hs1, fun H3 s3 => ?_⟩
        refine ⟨_, s3 _ _ q2, by rw [List.length_map, List.length_take, List.length_map, sizeLine_eq]; omega, fun c o zz => ?_, ?_⟩
        · rw [upd_ne (ne_of_none zz hlB)]
          exact s3 _ _ (s2 _ _ zz)
        · rw [upd_same, List.take_add_one, List.getElem?_map, hm, List.map_append]
          rfl
      · rintro H2 ⟨s2, q2⟩
        rw [List.length_map, List.take_of_length_le (by rw [List.length_map]; exact Nat.le_refl _)] at q2
        refine ⟨lB, _, rfl, SqL.of q2, ?_⟩
        have e3 : (ns.map (stepsOn ps d)).any id = ns.any (stepsOn ps d) := by rw [List.any_map]; rfl
        rw [e3, e2]
        exact k _ s2
end
end Wd
end
section
set_option Elab.async false
set_option linter.all false
set_option maxRecDepth 100000
set_option maxHeartbeats 4000000
set_option pp.maxSteps 600
/-! ### an error with one field, made of a value and raised -/
namespace Wd
open PySem PySem.Spec PyProof.Rows L2 Wt TL NumText
def spIni (C : Addr) (f : Str) (K : PySem.W.Frag) : Sp := fun vs H Q _ => ∃ (a : Addr) (v : V), vs = [.ref a, v] ∧ H a = some (exo a C none) ∧
  ∀ d, H d = none → d ≠ a → Q .non (upd (upd H d (exd d [(f, v)])) a (exo a C (some d)))
/-- the class of an error with one field -/
structure Er (P : Program) (w : World) (K : PySem.W.Frag) (mg : Str → Option Value) (base : Heap) (x f : Str) (C : Addr) : Prop where
  glo : mg x = some (.ref C)
  oex : OexC K C
  err : ErrC K C
  nof : PySem.W.findIn K (.ref C) f = some none
  exm : PySem.W.exmOne K (.ref C) (.ref C) = some true
  ini : ∃ fI fd, PySem.W.findIn K (.ref C) "__init__" = some (some (.ref fI)) ∧ PySem.W.typeIn K (.ref fI) = some (.type "function") ∧
    FnOk P w K mg base CX0 1 fI fd ["self", f] (spIni C f K) ∧ Binds K fd ["self", f] []
section
variable {X : Cx} {p p2 pos pos2 : Pos} {x f y : Str}
/-- what stands in the i-th slot becomes the field of the error -/
def tErrV (C : Addr) (f : Str) (i : Nat) (W : WX) : TS := fun _ σ H => ∃ v, (σ[i]? = some (some v)) ∧ ∀ d H', Same H H' → H d = none → H' d = some (.xd [(f, v)]) → W (.ref C) (some d) σ H'
theorem ps_errV {C : Addr} {W : WX} (i : Nat) (hc : X.calm = true) (B : Er X.prog X.w X.K X.mg X.base x f C) (hr : Room 2 X.A) (tk : Takes X W) (hN : X.N[i]? = some y := by rfl) (hv : Vis X.env.scope y := by first | exact Or.inl rfl | exact Or.inr (Or.inl rfl) | exact Or.inr (Or.inr rfl)) (hg : Gl X x := by rfl)
    (hd : (y == ("__debug__" : Str)) = false := by decide) (hcd : (y == ("__classdict__" : Str)) = false := by decide) (hdx : (x == ("__debug__" : Str)) = false := by decide)
    (he : starEach [(.Name y p2)] X.env = (false, eval (.Name y p2) X.env) :: starEach [] X.env := by rfl) (hpl : (backTo pos (starEach [] X.env)).any (·.1) = false := by rfl) :
    PS X (.Raise (some (.Call (.Name x p) [.Name y p2] [] pos)) none pos2) (tErrV C f i W) := by
  obtain ⟨fI, fd, iC, tI, G, hb⟩ := B.ini
  have R := ps_raise (pos := pos2) hc tk (pmk_oex (p := p) (pos := pos) B.oex iC tI G hr hb .nil pass0 hg B.glo (pa_cons (pv (X := X) i (pos := p2) hN hv hd hcd) pa_nil) hdx he hpl)
  constructor
  intro pins s σ H D I h
  obtain ⟨v, ev, h⟩ := h
  refine R.run pins s σ H D I ?_
  refine ⟨v, ev, (by show 1 ≤ 1000; decide), fun a ha => ⟨a, v, rfl, upd_same, fun d hd hda => ⟨rfl, d, _, upd_same, by rw [upd_ne hda, upd_same], ?_, ?_⟩⟩⟩
  · rw [upd_ne hda] at hd
    exact hd
  · have hd0 : H d = none := by
      rw [upd_ne hda] at hd
      exact hd
    refine h d _ (fun b o z => ?_) hd0 upd_same
    have n1 := ne_of_none z ha
    have n2 := ne_of_none z hd0
    rw [upd_ne n2, L2.del_ne n1, upd_ne n1, upd_ne n2, upd_ne n1]
    exact z
end
section
variable {P : Program} {w : World} {K : PySem.W.Frag} {mg : Str → Option Value} {base : Heap} {f : Addr} {fd : FuncData}
theorem scBadPiece : FnScope ["self", "index"] ["self", "index"] (defScope (inClass (top i_BadPiece) j_BadPiece___init__)) := ⟨rfl, rfl, rfl, by decide +kernel, rfl, by decide +kernel, by decide +kernel⟩
theorem ok_BadPiece {C : Addr} (F : FunD K "__init__" "BadPiece.__init__" (defArgs (inClass (top i_BadPiece) j_BadPiece___init__)) (defBody (inClass (top i_BadPiece) j_BadPiece___init__)) (defScope (inClass (top i_BadPiece) j_BadPiece___init__)) [] [] f fd) (T : OexC K C) (n : PySem.W.findIn K (.ref C) "index" = some none) :
    FnOk P w K mg base CX0 1 f fd ["self", "index"] (spIni C "index" K) ∧ Binds K fd ["self", "index"] [] := by
  refine ⟨F.ok scBadPiece (fun vs H Q E h => ?_) (fun cdv A outer s H vs Q E hr h => ?_), F.bindsN fun _ _ _ _ _ _ us hl => match us, hl with | [_, _], _ => rfl⟩
  · obtain ⟨a, v, rfl, _⟩ := h
    rfl
  · obtain ⟨a, v, rfl, ha, k⟩ := h
    exact ⟨_, PSs.nox (pss_one (ps_ost (pv 0) (pv 1))), _, rfl, _, rfl, a, C, rfl, T, n, .inl ⟨ha, fun dx nd ne => k dx nd ne⟩⟩
end
end Wd
end
section
set_option Elab.async false
set_option linter.all false
set_option maxRecDepth 100000
set_option maxHeartbeats 4000000
set_option pp.maxSteps 600
/-! ### raise X(e), e any expression -/
namespace Wd
open PySem PySem.Spec PyProof.Rows L2 Wt TL NumText
section
variable {X : Cx} {p pos pos2 : Pos} {x f : Str} {ee : Expr} {te : TE}
/-- what an error that is made of v and raised asks -/
def ErrRaw (K : PySem.W.Frag) (C : Addr) (f : Str) (W : WX) (σ : L2.St) (v : V) (H : Hp) : Prop := [v].length ≤ 1000 ∧ ∀ a, H a = none → spIni C f K (.ref a :: ([v] ++ [])) (upd H a (exo a C none))
  (fun u H2 => u = .non ∧ ∃ (d : Addr) (fs : List (Str × V)), H2 a = some (exo a C (some d)) ∧ H2 d = some (exd d fs) ∧ H d = none ∧ W (.ref C) (some d) σ (upd (L2.del H2 a) d (.xd fs))) (fun _ _ _ => False)
theorem errRaw {K : PySem.W.Frag} {C : Addr} {f : Str} {W : WX} {σ : L2.St} {v : V} {H : Hp} (h : ∀ d H', Same H H' → H d = none → H' d = some (.xd [(f, v)]) → W (.ref C) (some d) σ H') : ErrRaw K C f W σ v H := by
  refine ⟨(by show 1 ≤ 1000; decide), fun a ha => ⟨a, v, rfl, upd_same, fun d hd hda => ⟨rfl, d, _, upd_same, by rw [upd_ne hda, upd_same], ?_, ?_⟩⟩⟩
  · rw [upd_ne hda] at hd
    exact hd
  · have hd0 : H d = none := by
      rw [upd_ne hda] at hd
      exact hd
    refine h d _ (fun b o z => ?_) hd0 upd_same
    have n1 := ne_of_none z ha
    have n2 := ne_of_none z hd0
    rw [upd_ne n2, L2.del_ne n1, upd_ne n1, upd_ne n2, upd_ne n1]
    exact z
def tErrE (K : PySem.W.Frag) (C : Addr) (f : Str) (te : TE) (W : WX) : TS := fun _ σ H => te σ H fun v H1 => ErrRaw K C f W σ v H1
theorem errC {K : PySem.W.Frag} {C : Addr} {f : Str} {W : WX} {D : Ends} {σ : L2.St} {v : V} {H : Hp} (h : ∀ d H', Same H H' → H d = none → H' d = some (.xd [(f, v)]) → W (.ref C) (some d) σ H') : tErrE K C f (tC v) W D σ H := by
  show ErrRaw K C f W σ v H
  exact errRaw h
/-- raise X(e) -/
theorem ps_errE {C : Addr} {W : WX} (hc : X.calm = true) (B : Er X.prog X.w X.K X.mg X.base x f C) (hr : Room 2 X.A) (tk : Takes X W) (pe : PE X ee te) (hg : Gl X x := by rfl) (hdx : (x == ("__debug__" : Str)) = false := by decide)
    (he : starEach [ee] X.env = (false, eval ee X.env) :: starEach [] X.env := by rfl) (hpl : (backTo pos (starEach [] X.env)).any (·.1) = false := by rfl) :
    PS X (.Raise (some (.Call (.Name x p) [ee] [] pos)) none pos2) (tErrE X.K C f te W) := by
  obtain ⟨fI, fd, iC, tI, G, hb⟩ := B.ini
  exact ps_raise (pos := pos2) hc tk (pmk_oex (p := p) (pos := pos) B.oex iC tI G hr hb .nil pass0 hg B.glo (pa_cons pe pa_nil (hs := by first | exact he.trans rfl | exact he)) hdx he hpl)
end
end Wd
end
section
set_option Elab.async false
set_option linter.all false
set_option maxRecDepth 100000
set_option maxHeartbeats 4000000
set_option pp.maxSteps 900
/-! ### Days.__init__ -/
namespace Wd
open PySem PySem.Spec PyProof.Rows L2 Wt TL NumText
def PieA (H : Hp) (v : V) (p : Pc) : Prop := ∃ a, v = .ref a ∧ SeqH H a p.vals
/-- fewer than 64 different steps -/
def Few (ps : List Pc) : Prop := ∀ S : List Int, S.Nodup → (∀ k ∈ S, ∃ p ∈ ps, p.k ≠ .one ∧ p.s = k) → S.length < 64
/-- all but one instance is as it was -/
def Sx (x : Addr) (H H' : Hp) : Prop := ∀ c o, H c = some o → c ≠ x → H' c = some o
def Out1 (E : XK) (C : Addr) (f : Str) (v : V) (H : Hp) : Prop := ∀ d H', Same H H' → H d = none → H' d = some (.xd [(f, v)]) → E (.ref C) (some d) H'
def spDaysI (K : PySem.W.Frag) (CQ : Addr) : Sp := fun vs H Q E => ∃ (x dx l : Addr) (xs : List V), vs = [.ref x, .ref l] ∧ H x = some (.ins (He.ga K "Days") dx []) ∧ SeqH H l xs ∧ xs.length ≤ 1000 ∧
  ((∃ ps : List Pc, All2 (PieA H) xs ps ∧ (∀ p ∈ ps, p.good) ∧ Few ps ∧ ∀ H', Sx x H H' → DayA K H' x ps → Q .non H') ∨
   (∃ (i : Nat) (v : V), xs[i]? = some v ∧ PieV H v false ∧ (∀ j v', j < i → xs[j]? = some v' → PieV H v' true) ∧ Out1 E CQ "index" (.int (i : Nat)) H))
theorem PieV.same {H H' : Hp} {v : V} {b : Bool} (h : PieV H v b) (s : Same H H') : PieV H' v b := by
  cases h with
  | int n => exact .int n
  | bl n => exact .bl n
  | non => exact .non
  | str z => exact .str z
  | seq e f l => exact .seq (e.same s) f l
theorem Pc.flat (p : Pc) : (∀ v ∈ p.vals, FlatV v) ∧ p.vals.length ≤ 3 := by
  unfold Pc.vals
  split
  · refine ⟨fun v hv => ?_, by simp⟩
    rcases List.mem_cons.mp hv with rfl | hv
    · trivial
    · rcases List.mem_cons.mp hv with rfl | hv
      · trivial
      · cases hv
  · refine ⟨fun v hv => ?_, by simp⟩
    rcases List.mem_cons.mp hv with rfl | hv
    · trivial
    · rcases List.mem_cons.mp hv with rfl | hv
      · trivial
      · rcases List.mem_cons.mp hv with rfl | hv
        · trivial
        · cases hv
theorem PieA.pieV {H : Hp} {v : V} {p : Pc} (h : PieA H v p) (g : p.good) : PieV H v true := by
  obtain ⟨a, rfl, e⟩ := h
  rw [← p.okP g]
  exact .seq e p.flat.1 (by have := p.flat.2; omega)
theorem Sx.refl (x : Addr) (H : Hp) : Sx x H H := fun _ _ e _ => e
theorem Sx.of {x : Addr} {H H' H'' : Hp} (s : Sx x H H') (t : Same H' H'') : Sx x H H'' := fun c o e n => t _ _ (s c o e n)
theorem Sx.put {x : Addr} {H H' : Hp} {u : HO} (s : Sx x H H') : Sx x H (upd H' x u) := fun c o e n => by rw [upd_ne n]; exact s c o e n
theorem Sx.neL {x : Addr} {H : Hp} {C dx : Addr} {fs : List (Str × V)} {c : Addr} {u : HO} (hx : H x = some (.ins C dx fs)) (h : H c = some u) (n : ∀ C dx fs, u ≠ .ins C dx fs) : c ≠ x := fun e => by
  rw [e, hx] at h
  exact n _ _ _ (Option.some.inj h).symm
theorem Sx.step {x : Addr} {H0 H : Hp} {C dx : Addr} {fs : List (Str × V)} (s : Sx x H0 H) (hx : H x = some (.ins C dx fs)) (fs' : List (Str × V)) :
    Sx x H0 (upd H x (.ins C dx fs')) ∧ (upd H x (.ins C dx fs')) x = some (.ins C dx fs') ∧ ∀ c u, H c = some u → (∀ C dx fs, u ≠ .ins C dx fs) → (upd H x (.ins C dx fs')) c = some u :=
  ⟨s.put, upd_same, fun c u h n => by rw [upd_ne (Sx.neL hx h n)]; exact h⟩
theorem PcsA.mv {H H' : Hp} {ys : List V} {ps : List Pc} (h : PcsA H ys ps) (m : ∀ c u, H c = some u → (∀ C dx fs, u ≠ .ins C dx fs) → H' c = some u) : PcsA H' ys ps := All2.mono (fun _ _ ⟨a, e, z⟩ => ⟨a, e, m _ _ z (fun _ _ _ => nofun)⟩) h
theorem StA.mv {H H' : Hp} {a : Addr} {ps : List Pc} {k : Kd} (h : StA H a ps k) (m : ∀ c u, H c = some u → (∀ C dx fs, u ≠ .ins C dx fs) → H' c = some u) : StA H' a ps k := by
  obtain ⟨kvs, e, z⟩ := h
  exact ⟨kvs, m _ _ e (fun _ _ _ => nofun), z⟩
theorem Pc.at0 (p : Pc) : atI p.vals 0 = some (.str p.k.w) := by
  unfold Pc.vals
  split
  · rename_i e
    rw [e]
    rfl
  · rfl
theorem Pc.at1 (p : Pc) : atI p.vals 1 = some (.int p.a) := by
  unfold Pc.vals
  split <;> rfl
theorem Pc.at2 (p : Pc) (h : p.k ≠ .one) : atI p.vals 2 = some (.int p.s) := by
  unfold Pc.vals
  rw [if_neg h]
  rfl
theorem onesHas_snoc (ps : List Pc) (p : Pc) (d : Int) : onesHas (ps ++ [p]) d = (onesHas ps d || (decide (p.k = .one) && decide (p.a = d))) := by
  unfold onesHas
  rw [List.any_append]
  simp
section
variable {P : Program} {w : World} {K : PySem.W.Frag} {mg : Str → Option Value} {base : Heap} {f : Addr} {fd : FuncData}
structure DDaysI (P : Program) (w : World) (K : PySem.W.Frag) (mg : Str → Option Value) (base : Heap) (CQ : Addr) : Prop where
  is_piece : Df P w K mg base CX0 2 "_is_piece" ["piece"] spIsPiece
  starts : Df P w K mg base CX0 1 "_starts" ["pieces", "word"] spStarts
  bad : Er P w K mg base "BadPiece" "index" CQ
theorem scDaysI : FnScope ["self", "pieces", "index", "piece"] ["self", "pieces"] (defScope (inClass (top i_Days) j_Days___init__)) := ⟨rfl, rfl, rfl, by decide +kernel, rfl, by decide +kernel, by decide +kernel⟩
theorem ok_daysI {CQ : Addr} (F : FunD K "__init__" "Days.__init__" (defArgs (inClass (top i_Days) j_Days___init__)) (defBody (inClass (top i_Days) j_Days___init__)) (defScope (inClass (top i_Days) j_Days___init__)) [] [] f fd) (T : Tx K mg) (D : DDaysI P w K mg base CQ) :
    FnOk P w K mg base (L2.CX P w) 3 f fd ["self", "pieces"] (spDaysI K CQ) := by
  refine F.ok scDaysI (fun vs H Q E h => ?_) (fun cdv A outer s H vs Q E hr h => ?_)
  · obtain ⟨x, dx, l, xs, rfl, _⟩ := h
    rfl
  · obtain ⟨x, dx, l, xs, rfl, x0, hl, hn, h⟩ := h
    have hu := hu_of hr
    have B := D.bad
    refine ⟨_, (pss_cons (ps_for (passes_of rfl) rfl (pi_enumU (by rfl) T.enumerate (pa_cons (pv 1) pa_nil)) (pg_tup rfl (pgs_cons (pg_name (i := 2) scDaysI.nd rfl (Or.inl rfl)) (pgs_cons (pg_name (i := 3) scDaysI.nd rfl (Or.inl rfl)) pgs_nil))) (pss_one (ps_if (pt_not (pt_val (pe_cd D.is_piece (hr.mono (by decide)) pass0 (pa_cons (pv 3) pa_nil)))) (pss_one (ps_errE rfl B (hr.mono (by decide)) (takes_of rfl rfl rfl rfl) (pv 2))) pss_nil)))
        (pss_cons (ps_fld (pv 0) (pe_callTy call_tuple_of (by rfl) T.tuple (by decide +kernel) (pa_cons (pe_lc (own := [("piece", 3)]) rfl scDaysI.nd (pi_seqE (pv 1)) (blkOk_by (own := [("piece", 3)]) (N := ["self", "pieces", "index", "piece"]) (sc := defScope (inClass (top i_Days) j_Days___init__)) (by decide +kernel)) (fun _ _ _ _ _ => (pg_name (i := 3) scDaysI.nd rfl (Or.inl rfl))) (fun _ _ _ _ _ => pts_nil) (fun _ _ _ _ _ => (pe_callTy (r := rTupOf K) call_tuple_ofR (by rfl) T.tuple (by decide +kernel) (pa_cons (pv 3) pa_nil)))) pa_nil)) rfl)
        (pss_cons (ps_fld (pv 0) (pe_dc (own := [("piece", 3)]) rfl scDaysI.nd (pi_tup (pe_fld (pv 0) rfl)) (blkOk_by (own := [("piece", 3)]) (N := ["self", "pieces", "index", "piece"]) (sc := defScope (inClass (top i_Days) j_Days___init__)) (by decide +kernel)) (fun _ _ _ _ _ => (pg_name (i := 3) scDaysI.nd rfl (Or.inl rfl))) (fun _ _ _ _ _ => (pts_one (pt_cmpR op_eq (pe_ix (r := rIxT K) ix_tup (pv 3) pe_int (fun _ _ => rfl)) pe_str (nomark _)))) (fun _ _ _ _ _ => (pe_ix (r := rIxT K) ix_tup (pv 3) pe_int (fun _ _ => rfl))) (fun _ _ _ _ _ => pe_bl)) rfl)
        (pss_cons (ps_fld (pv 0) (pe_cd D.starts (hr.mono (by decide)) pass0 (pa_cons (pe_fld (pv 0) rfl) (pa_cons pe_str pa_nil))) rfl)
        (pss_cons (ps_fld (pv 0) (pe_cd D.starts (hr.mono (by decide)) pass0 (pa_cons (pe_fld (pv 0) rfl) (pa_cons pe_str pa_nil))) rfl)
        (pss_cons (ps_fld (pv 0) (pe_cd D.starts (hr.mono (by decide)) pass0 (pa_cons (pe_fld (pv 0) rfl) (pa_cons pe_str pa_nil))) rfl)
        (pss_one (ps_fld (pv 0) (pe_callTy call_tuple_of (by rfl) T.tuple (by decide +kernel) (pa_cons (pe_callB (cr_sortedSet rfl) (by rfl) T.sorted (by decide +kernel) (pa_cons (pe_sc1P (w := w) rfl (own := [("piece", 3)]) rfl scDaysI.nd (pi_tup (pe_fld (pv 0) rfl)) (blkOk_by (own := [("piece", 3)]) (N := ["self", "pieces", "index", "piece"]) (sc := defScope (inClass (top i_Days) j_Days___init__)) (by decide +kernel)) (fun _ _ _ _ _ => (pg_name (i := 3) scDaysI.nd rfl (Or.inl rfl))) (fun _ _ _ _ _ => (pts_one (pt_cmpR op_ne (pe_ix (r := rIxT K) ix_tup (pv 3) pe_int (fun _ _ => rfl)) pe_str (nomark _)))) (fun _ _ _ _ _ => (pe_ix (r := rIxT K) ix_tup (pv 3) pe_int (fun _ _ => rfl)))) pa_nil)) pa_nil)) rfl)))))))), ?_⟩
    rcases h with ⟨ps, hA, hg, hfew, k⟩ | ⟨i, v0, hi, hb, hgood, kE⟩
    · refine ⟨_, rfl, l, xs, rfl, hl, fun J G wk hG => for_it wk (fun i σ H' => ∃ (x2 x3 : Option V), σ = [some (.ref x), some (.ref l), x2, x3] ∧ Same H H') ⟨_, _, rfl, Same.refl _⟩ (fun i σ H' _ z => by obtain ⟨_, _, _, s⟩ := z; exact hG _ s) ?_ ?_⟩
      · rintro i v σ H1 H2 hi ⟨x2, x3, rfl, s1⟩ ⟨T1, v1, v2, rfl, hT1, rfl, q1, q2⟩
        cases q1
        have q2 : xs[i]? = some v2 := q2
        obtain ⟨p, hp, pa⟩ := hA.at q2
        have pv := ((pa.pieV (hg p (List.mem_of_getElem? hp))).same s1)
        have sT := same_upd (o := .tup [.int (i : Nat), v2]) hT1
        have tq1 : (upd H1 T1 (.tup [.int (i : Nat), v2])) T1 = some (.tup [.int (i : Nat), v2]) := upd_same
        have s2 := s1.trans sT
        have pv2 := pv.same sT
        generalize upd H1 T1 (.tup [.int (i : Nat), v2]) = H2 at sT tq1 s2 pv2 ⊢
        exact ⟨T1, _, rfl, SqT.of tq1, rfl, _, _, rfl, _, _, rfl, rfl, _, rfl, v2, true, rfl, pv2, fun H3 s3 => ⟨_, rfl, ifN rfl ⟨_, _, rfl, s2.trans s3⟩⟩⟩
      rintro σ H1 ⟨x2, x3, rfl, s1⟩
      have hxl := hA.len
      -- self.pieces
      refine ⟨_, rfl, l, xs, rfl, hl.same s1, fun J G wk hG lB hlB => lc_it wk (fun i H' => Same H1 H' ∧ ∃ ys, H' lB = some (.lst ys) ∧ PcsA H' ys (ps.take i)) ⟨same_upd hlB, [], upd_same, .nil⟩ (fun i H' _ z => hG _ ((hl.same s1).eq fun o e _ => z.1 _ _ e)) ?_ ?_⟩
      · rintro i v Hy H2 hi ⟨s2, ys, q2, al⟩ ⟨rfl, hvx⟩
        obtain ⟨p, hp, pa, rfl, pq⟩ := hA.at hvx
        have htk : ps.take (i + 1) = ps.take i ++ [p] := by rw [List.take_add_one, hp]; rfl
        have hyl := al.len
        have hyl : ys.length ≤ 1000 := by rw [hyl, List.length_take]; omega
        refine ⟨rfl, iteT (B := Same H1 H2 ∧ ∃ ys, H2 lB = some (.lst ys) ∧ PcsA H2 ys (ps.take (i + 1))) ?_⟩
        have fin : ∀ (t : Addr) (H3 : Hp), Same H2 H3 → H3 t = some (.tup p.vals) → ∃ zs, H3 lB = some (.lst zs) ∧ zs.length < sizeLine ∧ (Same H1 (upd H3 lB (.lst (zs ++ [.ref t]))) ∧ ∃ ys', (upd H3 lB (.lst (zs ++ [.ref t]))) lB = some (.lst ys') ∧ PcsA (upd H3 lB (.lst (zs ++ [.ref t]))) ys' (ps.take (i + 1))) := fun t H3 s3 tq => by
          have q3 := s3 _ _ q2
          have sB : ∀ c xs, H3 c = some (.tup xs) → (upd H3 lB (.lst (ys ++ [.ref t]))) c = some (.tup xs) := fun c xs z => by
            rw [upd_ne (fun e => by rw [e, q3] at z; cases z)]
            exact z
          refine ⟨ys, q3, by have := sizeLine_eq; omega, fun c o z => ?_, _, upd_same, ?_⟩
          · rw [upd_ne (ne_of_none z hlB)]
            exact s3 _ _ (s2 _ _ z)
          · rw [htk]
            exact (All2.mono (fun _ _ ⟨a, e, z⟩ => ⟨a, e, sB _ _ (s3 _ _ z)⟩) al).snoc ⟨t, rfl, sB _ _ tq⟩
        rcases ((show SeqH H pa p.vals from pq).same s1).same s2 with pq2 | pq2
        · exact ⟨_, rfl, pa, p.vals, rfl, .inl ⟨SqL.of pq2, fun t ht => fin t _ (same_upd ht) upd_same⟩⟩
        · exact ⟨_, rfl, pa, p.vals, rfl, .inr ⟨SqT.of pq2, fin pa _ (Same.refl _) pq2⟩⟩
      rintro H2 ⟨s2, ys, q2, al⟩
      rw [List.take_of_length_le (by omega)] at al
      refine ⟨lB, _, rfl, .inl ⟨SqL.of q2, fun tp htp => ?_⟩⟩
      have x2' := s2 _ _ (s1 _ _ x0)
      have s3 := same_upd (o := HO.tup ys) htp
      have s02 : Sx x H (upd H2 tp (.tup ys)) := (((Sx.refl x H).of s1).of s2).of s3
      have tp3 : (upd H2 tp (.tup ys)) tp = some (.tup ys) := upd_same
      have al3 := al.same s3
      have x3' := s3 _ _ x2'
      generalize upd H2 tp (.tup ys) = H3 at s3 s02 tp3 al3 x3' ⊢
      refine ⟨_, rfl, x, _, dx, _, rfl, x3', T.cl, T.n1, (by show 0 < 1000; decide), ?_⟩
      obtain ⟨s04, x4, m4⟩ := s02.step x3' (putF "pieces" (.ref tp) [])
      have tp4 := m4 _ _ tp3 (fun _ _ _ => nofun)
      have al4 := al3.mv m4
      generalize upd H3 x (.ins (He.ga K "Days") dx (putF "pieces" (.ref tp) [])) = H4 at s04 x4 m4 tp4 al4 ⊢
      clear m4 al3 x3' tp3 s02 s3 htp x2' q2 s2 hlB
      have hpl : ps.length ≤ 1000 := by omega
      have hyl : ys.length = ps.length := al4.len
      -- self._ones
      refine ⟨_, rfl, x, _, dx, _, .ref tp, rfl, x4, T.cl, T.n1, rfl, tp, rfl, ⟨ys, SqT.of tp4⟩, fun o ho => dc_it (walk_tup (xs := ys)) (fun i H' => Same H4 H' ∧ ∃ okv : List (Key × V), H' o = some (.dK okv) ∧ okv.length ≤ i ∧ (∀ d : Int, (valV okv (Sum.inl d)).isSome = onesHas (ps.take i) d) ∧ ∀ z : Str, valV okv (Sum.inr z) = none)
        ⟨same_upd ho, [], upd_same, Nat.le_refl _, fun d => rfl, fun z => rfl⟩ (fun i H' _ z => SqT.of (z.1 _ _ tp4)) ?_ ?_⟩
      · rintro i v Hy H5 hi ⟨s5, okv, q5, l5, e5, t5⟩ ⟨rfl, hvx⟩
        obtain ⟨p, hp, pa, rfl, pq⟩ := al4.at hvx
        have htk : ps.take (i + 1) = ps.take i ++ [p] := by rw [List.take_add_one, hp]; rfl
        have pq5 := s5 _ _ pq
        refine ⟨rfl, _, rfl, pa, _, _, _, rfl, rfl, SqT.of pq5, p.at0, rfl, _, rfl, ifQ (fun e => ?_) (fun e => ?_)⟩
        · have ek : p.k = .one := Kd.w_inj (V.str.inj (of_decide_eq_true e))
          refine ⟨_, rfl, pa, _, _, .int p.a, rfl, rfl, SqT.of pq5, p.at1, okv, Sum.inl p.a, rfl, q5, by have := sizeLine_eq; omega, fun c u z => ?_, _, upd_same, ?_, fun d => ?_, fun z => ?_⟩
          · rw [upd_ne (ne_of_none z ho)]
            exact s5 _ _ z
          · have := length_putK okv (Sum.inl p.a) (.bl true)
            omega
          · rw [valV_put, htk, onesHas_snoc, ← e5, ek, decide_eq_true rfl, Bool.true_and]
            by_cases hd : d = p.a
            · rw [if_pos (by rw [hd]), decide_eq_true hd.symm, Bool.or_true]
              rfl
            · rw [if_neg (fun z => hd (Sum.inl.inj z)), decide_eq_false (fun z => hd z.symm), Bool.or_false]
          · rw [valV_put, if_neg (fun h => by cases h)]
            exact t5 z
        · have ek : p.k ≠ .one := fun z => (of_decide_eq_false e) (by rw [z]; rfl)
          exact ⟨s5, okv, q5, by omega, fun d => by rw [e5, htk, onesHas_snoc, decide_eq_false ek, Bool.false_and, Bool.or_false], t5⟩
      rintro H5 ⟨s5, okv, o5, _, e5, t5⟩
      rw [List.take_of_length_le (by omega)] at e5
      have s05 := s04.of s5
      have x5 := s5 _ _ x4
      have tp5 := s5 _ _ tp4
      have al5 := al4.same s5
      refine ⟨_, rfl, x, _, dx, _, rfl, x5, T.cl, T.n2, (by show 1 < 1000; decide), ?_⟩
      obtain ⟨s06, x6, m6⟩ := s05.step x5 (putF "_ones" (.ref o) (putF "pieces" (.ref tp) []))
      have tp6 := m6 _ _ tp5 (fun _ _ _ => nofun)
      have al6 := al5.mv m6
      have o6 := m6 _ _ o5 (fun _ _ _ => nofun)
      generalize upd H5 x (.ins (He.ga K "Days") dx (putF "_ones" (.ref o) (putF "pieces" (.ref tp) []))) = H6 at s06 x6 m6 tp6 al6 o6 ⊢
      clear m6 al5 tp5 x5 s05 o5 s5 ho al4 tp4 x4 s04
      -- self._ups
      refine ⟨_, rfl, x, _, dx, _, .ref tp, rfl, x6, T.cl, T.n1, rfl, tp, ys, ps, .up, rfl, by decide, tp6, al6, hpl, hg, fun u H7 s7 st7 => ?_⟩
      refine ⟨_, rfl, x, _, dx, _, rfl, s7 _ _ x6, T.cl, T.n3, (by show 2 < 1000; decide), ?_⟩
      obtain ⟨s08, x8, m8⟩ := (s06.of s7).step (s7 _ _ x6) (putF "_ups" (.ref u) (putF "_ones" (.ref o) (putF "pieces" (.ref tp) [])))
      have tp8 := m8 _ _ (s7 _ _ tp6) (fun _ _ _ => nofun)
      have al8 := (al6.same s7).mv m8
      have o8 := m8 _ _ (s7 _ _ o6) (fun _ _ _ => nofun)
      have u8 := st7.mv m8
      generalize upd H7 x (.ins (He.ga K "Days") dx (putF "_ups" (.ref u) (putF "_ones" (.ref o) (putF "pieces" (.ref tp) [])))) = H8 at s08 x8 m8 tp8 al8 o8 u8 ⊢
      clear m8 st7 s7 al6 o6 tp6 x6 s06
      -- self._downs
      refine ⟨_, rfl, x, _, dx, _, .ref tp, rfl, x8, T.cl, T.n1, rfl, tp, ys, ps, .dn, rfl, by decide, tp8, al8, hpl, hg, fun n H9 s9 st9 => ?_⟩
      refine ⟨_, rfl, x, _, dx, _, rfl, s9 _ _ x8, T.cl, T.n4, (by show 3 < 1000; decide), ?_⟩
      obtain ⟨s010, x10, m10⟩ := (s08.of s9).step (s9 _ _ x8) (putF "_downs" (.ref n) (putF "_ups" (.ref u) (putF "_ones" (.ref o) (putF "pieces" (.ref tp) []))))
      have tp10 := m10 _ _ (s9 _ _ tp8) (fun _ _ _ => nofun)
      have al10 := (al8.same s9).mv m10
      have o10 := m10 _ _ (s9 _ _ o8) (fun _ _ _ => nofun)
      have u10 := (u8.same s9).mv m10
      have n10 := st9.mv m10
      generalize upd H9 x (.ins (He.ga K "Days") dx (putF "_downs" (.ref n) (putF "_ups" (.ref u) (putF "_ones" (.ref o) (putF "pieces" (.ref tp) []))))) = H10 at s010 x10 m10 tp10 al10 o10 u10 n10 ⊢
      clear m10 st9 s9 al8 o8 tp8 x8 s08 u8
      -- self._everys
      refine ⟨_, rfl, x, _, dx, _, .ref tp, rfl, x10, T.cl, T.n1, rfl, tp, ys, ps, .ev, rfl, by decide, tp10, al10, hpl, hg, fun e H11 s11 st11 => ?_⟩
      refine ⟨_, rfl, x, _, dx, _, rfl, s11 _ _ x10, T.cl, T.n5, (by show 4 < 1000; decide), ?_⟩
      obtain ⟨s012, x12, m12⟩ := (s010.of s11).step (s11 _ _ x10) (putF "_everys" (.ref e) (putF "_downs" (.ref n) (putF "_ups" (.ref u) (putF "_ones" (.ref o) (putF "pieces" (.ref tp) [])))))
      have tp12 := m12 _ _ (s11 _ _ tp10) (fun _ _ _ => nofun)
      have al12 := (al10.same s11).mv m12
      have o12 := m12 _ _ (s11 _ _ o10) (fun _ _ _ => nofun)
      have u12 := (u10.same s11).mv m12
      have n12 := (n10.same s11).mv m12
      have e12 := st11.mv m12
      generalize upd H11 x (.ins (He.ga K "Days") dx (putF "_everys" (.ref e) (putF "_downs" (.ref n) (putF "_ups" (.ref u) (putF "_ones" (.ref o) (putF "pieces" (.ref tp) [])))))) = H12 at s012 x12 m12 tp12 al12 o12 u12 n12 e12 ⊢
      clear m12 st11 s11 al10 o10 tp10 x10 s010 u10 n10
      -- self._steps
      refine ⟨_, rfl, x, _, dx, _, .ref tp, rfl, x12, T.cl, T.n1, rfl, tp, rfl, ⟨ys, SqT.of tp12⟩, fun D hD => sc1_it (walk_tup (xs := ys)) (fun i H' => Same H12 H' ∧ ∃ (S : Int → Bool) (L : List Int), H' D = some (SetO w D S L.length) ∧ L.length ≤ i ∧ L.Nodup ∧ (∀ k, k ∈ L ↔ S k = true) ∧ ∀ k, k ∈ L ↔ ∃ p ∈ ps.take i, p.k ≠ .one ∧ p.s = k)
        ⟨same_upd hD, fun _ => false, [], upd_same, Nat.le_refl _, List.nodup_nil, fun k => ⟨(nomatch ·), (nomatch ·)⟩, fun k => ⟨(nomatch ·), fun ⟨p, hp, _⟩ => (nomatch hp)⟩⟩ (fun i H' _ z => SqT.of (z.1 _ _ tp12)) ?_ ?_⟩
      · rintro i v Hy H5 hi ⟨s5, S, L, q5, l5, nd, mS, mP⟩ ⟨rfl, hvx⟩
        obtain ⟨p, hp, pa, rfl, pq⟩ := al12.at hvx
        have htk : ps.take (i + 1) = ps.take i ++ [p] := by rw [List.take_add_one, hp]; rfl
        have pq5 := s5 _ _ pq
        refine ⟨rfl, _, rfl, pa, _, _, _, rfl, rfl, SqT.of pq5, p.at0, rfl, _, rfl, ifQ (fun e => ?_) (fun e => ?_)⟩
        · have ek : p.k ≠ .one := fun z => by rw [z] at e; exact absurd e (by decide)
          have mem' : ∀ L' : List Int, (∀ k, k ∈ L' ↔ (k ∈ L ∨ k = p.s)) → ∀ k, k ∈ L' ↔ ∃ q ∈ ps.take (i + 1), q.k ≠ .one ∧ q.s = k := fun L' h k => by
            rw [h, mP, htk]
            constructor
            · rintro (⟨q, hq, z⟩ | rfl)
              · exact ⟨q, List.mem_append_left _ hq, z⟩
              · exact ⟨p, List.mem_append_right _ List.mem_cons_self, ek, rfl⟩
            · rintro ⟨q, hq, z1, z2⟩
              rcases List.mem_append.mp hq with hq | hq
              · exact .inl ⟨q, hq, z1, z2⟩
              · rw [List.mem_singleton] at hq
                subst hq
                exact .inr z2.symm
          refine ⟨_, rfl, pa, _, _, .int p.s, rfl, rfl, SqT.of pq5, p.at2 ek, p.s, S, L.length, rfl, q5, ?_, ?_, ?_⟩
          · have e : scanBound = 4096 := rfl
            omega
          · intro c u z
            rw [upd_ne (ne_of_none z hD)]
            exact s5 _ _ z
          · cases hS : S p.s with
            | true =>
              refine ⟨_, L, upd_same, by omega, nd, fun k => ?_, mem' L fun k => ⟨.inl, fun h => h.elim id fun h => by rw [h]; exact (mS _).mpr hS⟩⟩
              rw [mS, Bool.or_eq_true]
              exact ⟨.inl, fun h => h.elim id fun h => by rw [of_decide_eq_true h]; exact hS⟩
            | false =>
              have nm : p.s ∉ L := fun h => by
                rw [(mS _).mp h] at hS
                cases hS
              refine ⟨_, p.s :: L, upd_same, by rw [List.length_cons]; omega, List.nodup_cons.mpr ⟨nm, nd⟩, fun k => ?_, mem' _ fun k => ?_⟩
              · rw [List.mem_cons, mS, Bool.or_eq_true]
                exact ⟨fun h => h.elim (fun h => .inr (decide_eq_true h)) .inl, fun h => h.elim .inr fun h => .inl (of_decide_eq_true h)⟩
              · rw [List.mem_cons]
                exact ⟨fun h => h.elim .inr .inl, fun h => h.elim .inr .inl⟩
        · have ek : p.k = .one := Kd.w_inj (V.str.inj (of_decide_eq_true (show decide (V.str p.k.w = V.str (Kd.one.w)) = true from by
            have e' : (!decide (V.str p.k.w = V.str (Kd.one.w))) = false := e
            rw [Bool.not_eq_false'] at e'
            exact e')))
          refine ⟨s5, S, L, q5, by omega, nd, mS, fun k => ?_⟩
          rw [mP, htk]
          constructor
          · rintro ⟨q, hq, z⟩
            exact ⟨q, List.mem_append_left _ hq, z⟩
          · rintro ⟨q, hq, z1, z2⟩
            rcases List.mem_append.mp hq with hq | hq
            · exact ⟨q, hq, z1, z2⟩
            · rw [List.mem_singleton] at hq
              subst hq
              exact absurd ek z1
      rintro H13 ⟨s13, S, L, q13, _, nd, mS, mP⟩
      rw [List.take_of_length_le (by omega)] at mP
      have h64 := hfew L nd fun k hk => (mP k).mp hk
      refine ⟨D, S, L.length, rfl, q13, h64, fun ns ls hpw hmem hlen hls => ?_⟩
      refine ⟨ls, _, rfl, .inl ⟨SqL.of upd_same, fun st hst => ?_⟩⟩
      have s14 := (s13.trans (same_upd (o := HO.lst (ns.map V.int)) hls)).trans (same_upd (o := HO.tup (ns.map V.int)) hst)
      have st14 : (upd (upd H13 ls (.lst (ns.map V.int))) st (.tup (ns.map V.int))) st = some (.tup (ns.map V.int)) := upd_same
      generalize upd (upd H13 ls (.lst (ns.map V.int))) st (.tup (ns.map V.int)) = H14 at s14 st14 ⊢
      refine ⟨_, rfl, x, _, dx, _, rfl, s14 _ _ x12, T.cl, T.n6, (by show 5 < 1000; decide), ?_⟩
      obtain ⟨s016, x16, m16⟩ := (s012.of s14).step (s14 _ _ x12) (putF "_steps" (.ref st) (putF "_everys" (.ref e) (putF "_downs" (.ref n) (putF "_ups" (.ref u) (putF "_ones" (.ref o) (putF "pieces" (.ref tp) []))))))
      refine k _ s016 ⟨⟨dx, tp, o, u, n, e, st, ys, okv, ns, x16, m16 _ _ (s14 _ _ tp12) (fun _ _ _ => nofun), (al12.same s14).mv m16, m16 _ _ (s14 _ _ o12) (fun _ _ _ => nofun), e5, (u12.same s14).mv m16, (n12.same s14).mv m16, (e12.same s14).mv m16, m16 _ _ st14 (fun _ _ _ => nofun), fun k => ?_, by rw [hlen]; exact h64, t5⟩, hg⟩
      rw [hmem, ← mS, mP]
    · refine ⟨_, rfl, l, xs, rfl, hl, fun J G wk hG => for_it wk (fun j σ H' => j ≤ i ∧ ∃ (x2 x3 : Option V), σ = [some (.ref x), some (.ref l), x2, x3] ∧ Same H H') ⟨Nat.zero_le _, _, _, rfl, Same.refl _⟩ (fun i σ H' _ z => by obtain ⟨_, _, _, _, s⟩ := z; exact hG _ s) ?_ ?_⟩
      · rintro j v σ H1 H2 hj ⟨hji, x2, x3, rfl, s1⟩ ⟨T1, v1, v2, rfl, hT1, rfl, q1, q2⟩
        cases q1
        have q2 : xs[j]? = some v2 := q2
        have sT := same_upd (o := .tup [.int (j : Nat), v2]) hT1
        have tq1 : (upd H1 T1 (.tup [.int (j : Nat), v2])) T1 = some (.tup [.int (j : Nat), v2]) := upd_same
        have s2 := s1.trans sT
        generalize upd H1 T1 (.tup [.int (j : Nat), v2]) = H2 at sT tq1 s2 ⊢
        refine ⟨T1, _, rfl, SqT.of tq1, rfl, _, _, rfl, _, _, rfl, rfl, ?_⟩
        by_cases he : j = i
        · subst he
          rw [hi] at q2
          cases q2
          exact ⟨_, rfl, _, false, rfl, hb.same s2, fun H3 s3 => ⟨_, rfl, ifB rfl ⟨_, rfl, errRaw fun d H4 s4 hd4 hq4 => kE d H4 ((s2.trans s3).trans s4) (Same.free (s2.trans s3) hd4) hq4⟩⟩⟩
        · exact ⟨_, rfl, v2, true, rfl, (hgood j v2 (by omega) q2).same s2, fun H3 s3 => ⟨_, rfl, ifN rfl ⟨by omega, _, _, rfl, s2.trans s3⟩⟩⟩
      · rintro σ H1 ⟨hle, _⟩
        have := (List.getElem?_eq_some_iff.mp hi).1
        omega
end
end Wd
end
section
set_option Elab.async false
set_option linter.all false
set_option maxRecDepth 100000
set_option maxHeartbeats 2000000
set_option pp.maxSteps 900
/-! min, max of a list of whole numbers, with a default and without. -/
namespace Wd
open PySem PySem.Spec PyProof.Rows L2 PySem.W
def minF (d : Int) : List Int → Int
  | [] => d
  | n :: r => r.foldl min n
def maxF (d : Int) : List Int → Int
  | [] => d
  | n :: r => r.foldl max n
theorem reads_ints {h : Heap} : ∀ {ns : List Int} {us : List Value}, Vals (ns.map V.int) us → ReadsAll h us (ns.map PyData.int) []
  | [], _, r => by cases r; exact .nil
  | n :: ns, _, r => by
    rw [List.map_cons] at r
    cases r with
    | cons r1 r2 =>
      obtain ⟨t, rfl⟩ := r1
      exact .cons (.int _ _) (reads_ints r2)
theorem alike_ints (ns : List Int) : AlikeAll (ns.map PyData.int) := by
  constructor
  · intro x hx y hy
    obtain ⟨a, _, rfl⟩ := List.mem_map.mp hx
    obtain ⟨b, _, rfl⟩ := List.mem_map.mp hy
    rfl
  · intro x hx
    obtain ⟨a, _, rfl⟩ := List.mem_map.mp hx
    exact fun e => by cases e
theorem depth_ints (ns : List Int) : PyData.depthAll (ns.map PyData.int) = 0 := by
  induction ns with
  | nil => simp [PyData.depthAll]
  | cons n r ih => simp [PyData.depthAll, PyData.depth, ih]
theorem reads_int_val {h : Heap} {v : Value} {n : Int} {bs : List Addr} (r : PySem.Reads h v (.int n) bs) : RelV (.int n) v := by
  cases r
  exact ⟨_, rfl⟩
section
variable {X : Cx}
def rMinK (K : PySem.W.Frag) : List V → List V → Hp → VK → Prop := fun xs zs H Q => ∃ (a : Addr) (ns : List Int) (d : Int), xs = [.ref a] ∧ zs = [.int d] ∧ SqL K H a (ns.map V.int) ∧ Q (.int (minF d ns)) H
def rMaxK (K : PySem.W.Frag) : List V → List V → Hp → VK → Prop := fun xs zs H Q => ∃ (a : Addr) (ns : List Int) (d : Int), xs = [.ref a] ∧ zs = [.int d] ∧ SqL K H a (ns.map V.int) ∧ Q (.int (maxF d ns)) H
def rMinL (K : PySem.W.Frag) : List V → Hp → VK → Prop := fun xs H Q => ∃ (a : Addr) (ns : List Int), xs = [.ref a] ∧ SqL K H a (ns.map V.int) ∧ ns ≠ [] ∧ Q (.int (minF 0 ns)) H
def rMaxL (K : PySem.W.Frag) : List V → Hp → VK → Prop := fun xs H Q => ∃ (a : Addr) (ns : List Int), xs = [.ref a] ∧ SqL K H a (ns.map V.int) ∧ ns ≠ [] ∧ Q (.int (maxF 0 ns)) H
theorem call_minK (hc : X.calm = true) (hu : X.A.units + 1 < cLine) : CallRK X (.builtin "min") ["default"] (rMinK X.K) := by
  intro pins s σ H xs zs us ws Q I r1 r2 h
  obtain ⟨a, ns, d, rfl, rfl, hs, q⟩ := h
  cases r1 with
  | cons r1 r1' =>
  cases r1'
  cases r1
  cases r2 with
  | cons r2 r2' =>
  cases r2'
  obtain ⟨td, rfl⟩ := r2
  obtain ⟨its, rv, hl, hlen⟩ := I.list hs
  refine min_list_default (I.ok.hd hc) hl.isList (reads_ints rv) (alike_ints ns) (by rw [depth_ints]; exact hu) (fun e h' tk kp => ?_) fun y ys i v h' tk bs e hv r kp => ?_
  · have e0 : ns = [] := List.map_eq_nil_iff.mp e
    subst e0
    exact ⟨.int d, H, I.kept kp, ⟨td, rfl⟩, q⟩
  · cases ns with
    | nil => cases e
    | cons n r' =>
      rw [List.map_cons] at e
      injection e with e1 e2
      subst e1 e2
      rw [minD_ints] at r
      exact ⟨.int _, H, I.kept kp, reads_int_val r, q⟩
theorem call_maxK (hc : X.calm = true) (hu : X.A.units + 1 < cLine) : CallRK X (.builtin "max") ["default"] (rMaxK X.K) := by
  intro pins s σ H xs zs us ws Q I r1 r2 h
  obtain ⟨a, ns, d, rfl, rfl, hs, q⟩ := h
  cases r1 with
  | cons r1 r1' =>
  cases r1'
  cases r1
  cases r2 with
  | cons r2 r2' =>
  cases r2'
  obtain ⟨td, rfl⟩ := r2
  obtain ⟨its, rv, hl, hlen⟩ := I.list hs
  refine max_list_default (I.ok.hd hc) hl.isList (reads_ints rv) (alike_ints ns) (by rw [depth_ints]; exact hu) (fun e h' tk kp => ?_) fun y ys i v h' tk bs e hv r kp => ?_
  · have e0 : ns = [] := List.map_eq_nil_iff.mp e
    subst e0
    exact ⟨.int d, H, I.kept kp, ⟨td, rfl⟩, q⟩
  · cases ns with
    | nil => cases e
    | cons n r' =>
      rw [List.map_cons] at e
      injection e with e1 e2
      subst e1 e2
      rw [maxD_ints] at r
      exact ⟨.int _, H, I.kept kp, reads_int_val r, q⟩
theorem call_minL (hc : X.calm = true) (hu : X.A.units + 1 < cLine) : CallR X (.builtin "min") (rMinL X.K) := by
  intro pins s σ H xs us Q I r1 h
  obtain ⟨a, ns, rfl, hs, ne, q⟩ := h
  cases r1 with
  | cons r1 r1' =>
  cases r1'
  cases r1
  obtain ⟨its, rv, hl, hlen⟩ := I.list hs
  cases ns with
  | nil => exact absurd rfl ne
  | cons n r' =>
  refine min_list_data (I.ok.hd hc) hl.isList (reads_ints (ns := n :: r') rv) (alike_ints (n :: r')) (by have := depth_ints (n :: r'); rw [List.map_cons] at this; rw [this]; exact hu) fun i v h' tk bs hv r kp => ?_
  rw [minD_ints] at r
  exact ⟨.int _, H, I.kept kp, reads_int_val r, q⟩
theorem call_maxL (hc : X.calm = true) (hu : X.A.units + 1 < cLine) : CallR X (.builtin "max") (rMaxL X.K) := by
  intro pins s σ H xs us Q I r1 h
  obtain ⟨a, ns, rfl, hs, ne, q⟩ := h
  cases r1 with
  | cons r1 r1' =>
  cases r1'
  cases r1
  obtain ⟨its, rv, hl, hlen⟩ := I.list hs
  cases ns with
  | nil => exact absurd rfl ne
  | cons n r' =>
  refine max_list_data (I.ok.hd hc) hl.isList (reads_ints (ns := n :: r') rv) (alike_ints (n :: r')) (by have := depth_ints (n :: r'); rw [List.map_cons] at this; rw [this]; exact hu) fun i v h' tk bs hv r kp => ?_
  rw [maxD_ints] at r
  exact ⟨.int _, H, I.kept kp, reads_int_val r, q⟩
end
section
variable {X : Cx} {o i : Expr} {td ty : TE} {P : Program} {w : World}
/-- k in d, d with keys that hold None -/
def tOIn (P : Program) (w : World) (ty td : TE) : TE := fun σ H Q => ty σ H fun y H1 => td σ H1 fun x H2 => ∃ a b kvs k, x = .ref a ∧ y = .ref b ∧ OD P w H2 a kvs ∧ H2 b = some (.tup (k.map oKV)) ∧ Q (.bl (oVal kvs k).isSome) H2
theorem pc_oinP (hp : X.prog = P) (hw : X.w = w) (hu : X.A.units + 1 < cLine) (hi : PE X i ty) (ho : PE X o td) : L2.PC X .In i o (tOIn P w ty td) := by
  subst hp hw
  refine ⟨fun pins s σ H Q I h => thn (hi.run pins s σ H _ I h) fun iv s1 ⟨y, H1, I1, ry, q1⟩ => thn (ho.run pins s1 σ H1 _ I1 q1) fun u s2 ⟨x, H2, I2, rx, a, b, kvs, k, ex, ey, d, hb, q2⟩ => ?_⟩
  subst ex ey
  cases rx
  cases ry
  obtain ⟨hs, _, xs, rel, dd⟩ := d.of I2.hok
  refine wpAny_in_heap (tupleKind_room_in1 hu) (oKey_of I2.hok hb) hs dd ?_
  have q := (oVal_rel rel k).isSome_eq
  rw [Option.isSome_map] at q
  rw [← q]
  exact ⟨.bl _, H2, I2.tok _, rfl, q2⟩
end
section
variable {X : Cx} {P : Program} {w : World}
theorem pe_dnewOP {pos : Pos} (hp : X.prog = P) (hw : X.w = w) : PE X (.Dict [] [] pos) (fun _ H Q => ∀ p, H p = none → Q (.ref p) (upd H p (odO P w p []))) := by
  subst hp hw
  exact pe_dnewO
theorem call_lenIP (hw : X.w = w) : CallR X (.builtin "len") (rLenI w) := by
  subst hw
  exact call_lenI
theorem pe_sc2P {elt tg iter tg1 iter1 : Expr} {ifs ifs1 : List Expr} {scope : Scope} {own : List (PySem.Str × Nat)} {vs1 : List Nat} {pos : Pos} {wi wi1 : TI} {g g1 : TG} {tt tt1 : TT} {te : TE} (hw : X.w = w) (hc : X.calm = true) (hN : X.N.Nodup) (hi : PI X tg iter wi) (ok : BlkOk X.N X.env.scope scope own) (hv : ∀ i ∈ vs1, i ∈ own.map (·.2))
    (hg : ∀ (s : Shared) (H : Hp) (C : Addr) (cl : List (PySem.Str × Addr)) (fp : List Addr), PG (X.blk s H scope (compEnvC scope cl C X.env) fp) tg g)
    (ht : ∀ (s : Shared) (H : Hp) (C : Addr) (cl : List (PySem.Str × Addr)) (fp : List Addr), PTs (X.blk s H scope (compEnvC scope cl C X.env) fp) ifs tt)
    (hi1 : ∀ (s : Shared) (H : Hp) (C : Addr) (cl : List (PySem.Str × Addr)) (fp : List Addr), PI (X.blk s H scope (compEnvC scope cl C X.env) fp) tg1 iter1 wi1)
    (hg1 : ∀ (s : Shared) (H : Hp) (C : Addr) (cl : List (PySem.Str × Addr)) (fp : List Addr), PG (X.blk s H scope (compEnvC scope cl C X.env) fp) tg1 g1)
    (ht1 : ∀ (s : Shared) (H : Hp) (C : Addr) (cl : List (PySem.Str × Addr)) (fp : List Addr), PTs (X.blk s H scope (compEnvC scope cl C X.env) fp) ifs1 tt1)
    (he : ∀ (s : Shared) (H : Hp) (C : Addr) (cl : List (PySem.Str × Addr)) (fp : List Addr), PE (X.blk s H scope (compEnvC scope cl C X.env) fp) elt te) (hs : ∀ x, foldedSetIterable iter X.env x = pure x := by intro _; rfl) (hs1 : ∀ env x, foldedSetIterable iter1 env x = pure x := by intro _ _; rfl) :
    PE X (.SetComp elt [⟨tg, iter, ifs, 0⟩, ⟨tg1, iter1, ifs1, 0⟩] scope pos) (tSc2 w wi g tt wi1 g1 tt1 te (own.map (·.2)) vs1) := by
  subst hw
  exact pe_sc2 hc hN hi ok hv hg ht hi1 hg1 ht1 he hs hs1
end
theorem foldl_min_le : ∀ (r : List Int) (n : Int), r.foldl min n ≤ n ∧ ∀ x ∈ r, r.foldl min n ≤ x
  | [], n => ⟨Int.le_refl _, fun x hx => by cases hx⟩
  | y :: r, n => by
    obtain ⟨h1, h2⟩ := foldl_min_le r (min n y)
    rw [List.foldl_cons]
    refine ⟨by omega, fun x hx => ?_⟩
    rcases List.mem_cons.mp hx with rfl | hx
    · omega
    · exact h2 x hx
theorem foldl_min_mem : ∀ (r : List Int) (n : Int), r.foldl min n = n ∨ r.foldl min n ∈ r
  | [], n => .inl rfl
  | y :: r, n => by
    rw [List.foldl_cons]
    rcases foldl_min_mem r (min n y) with h | h
    · rcases Int.le_total n y with g | g
      · rw [h]
        exact .inl (by omega)
      · rw [h]
        exact .inr (by rw [show min n y = y by omega]; exact List.mem_cons_self)
    · exact .inr (List.mem_cons_of_mem _ h)
theorem foldl_max_ge : ∀ (r : List Int) (n : Int), n ≤ r.foldl max n ∧ ∀ x ∈ r, x ≤ r.foldl max n
  | [], n => ⟨Int.le_refl _, fun x hx => by cases hx⟩
  | y :: r, n => by
    obtain ⟨h1, h2⟩ := foldl_max_ge r (max n y)
    rw [List.foldl_cons]
    refine ⟨by omega, fun x hx => ?_⟩
    rcases List.mem_cons.mp hx with rfl | hx
    · omega
    · exact h2 x hx
theorem foldl_max_mem : ∀ (r : List Int) (n : Int), r.foldl max n = n ∨ r.foldl max n ∈ r
  | [], n => .inl rfl
  | y :: r, n => by
    rw [List.foldl_cons]
    rcases foldl_max_mem r (max n y) with h | h
    · rcases Int.le_total n y with g | g
      · rw [h]
        exact .inr (by rw [show max n y = y by omega]; exact List.mem_cons_self)
      · rw [h]
        exact .inl (by omega)
    · exact .inr (List.mem_cons_of_mem _ h)
/-- the least and the greatest one of some: of the list, and all lie between -/
theorem minF_mem {ns : List Int} (h : ns ≠ []) (d : Int) : minF d ns ∈ ns ∧ ∀ x ∈ ns, minF d ns ≤ x := by
  cases ns with
  | nil => exact absurd rfl h
  | cons n r =>
    obtain ⟨h1, h2⟩ := foldl_min_le r n
    refine ⟨?_, fun x hx => ?_⟩
    · rcases foldl_min_mem r n with e | e
      · show r.foldl min n ∈ _
        rw [e]
        exact List.mem_cons_self
      · exact List.mem_cons_of_mem _ e
    · rcases List.mem_cons.mp hx with rfl | hx
      · exact h1
      · exact h2 x hx
theorem maxF_mem {ns : List Int} (h : ns ≠ []) (d : Int) : maxF d ns ∈ ns ∧ ∀ x ∈ ns, x ≤ maxF d ns := by
  cases ns with
  | nil => exact absurd rfl h
  | cons n r =>
    obtain ⟨h1, h2⟩ := foldl_max_ge r n
    refine ⟨?_, fun x hx => ?_⟩
    · rcases foldl_max_mem r n with e | e
      · show r.foldl max n ∈ _
        rw [e]
        exact List.mem_cons_self
      · exact List.mem_cons_of_mem _ e
    · rcases List.mem_cons.mp hx with rfl | hx
      · exact h1
      · exact h2 x hx
end Wd
end
section
set_option Elab.async false
set_option linter.all false
set_option maxRecDepth 100000
set_option maxHeartbeats 2000000
set_option pp.maxSteps 900
/-! ### sums of sets, the next days of a set (pure) -/
namespace Wd
open PySem PySem.Spec PyProof.Rows L2 Wt TL NumText
theorem nodup_le {α : Type} [DecidableEq α] : ∀ {L M : List α}, L.Nodup → (∀ x ∈ L, x ∈ M) → L.length ≤ M.length
  | [], _, _, _ => Nat.zero_le _
  | x :: L, M, nd, h => by
    obtain ⟨n1, n2⟩ := List.nodup_cons.mp nd
    have hx := h x List.mem_cons_self
    have ih := nodup_le (M := M.erase x) n2 fun y hy => by
      refine (List.mem_erase_of_ne fun e => n1 (by rw [← e]; exact hy)).mpr (h y (List.mem_cons_of_mem _ hy))
    rw [List.length_erase_of_mem hx] at ih
    have := List.length_pos_of_mem hx
    rw [List.length_cons]
    omega
/-- what stands in a dict for a piece -/
def Pc.key (p : Pc) : List Key := if p.k = .one then [Sum.inr "one", Sum.inl p.a] else [Sum.inr p.k.w, Sum.inl p.a, Sum.inl p.s]
theorem Pc.key_vals (p : Pc) : p.key.map kV = p.vals := by
  unfold Pc.key Pc.vals
  split <;> rfl
theorem key_inj {p q : Pc} (h : p.key = q.key) : p.k = q.k ∧ p.a = q.a ∧ (p.k ≠ .one → p.s = q.s) := by
  unfold Pc.key at h
  by_cases h1 : p.k = .one
  · rw [if_pos h1] at h
    by_cases h2 : q.k = .one
    · rw [if_pos h2] at h
      injection h with _ h
      injection h with h _
      exact ⟨by rw [h1, h2], Sum.inl.inj h, fun n => absurd h1 n⟩
    · rw [if_neg h2] at h
      injection h with h _
      exact absurd (Kd.w_inj (a := .one) (b := q.k) (Sum.inr.inj h)).symm h2
  · rw [if_neg h1] at h
    by_cases h2 : q.k = .one
    · rw [if_pos h2] at h
      injection h with h _
      exact absurd (Kd.w_inj (b := .one) (a := p.k) (Sum.inr.inj h)) h1
    · rw [if_neg h2] at h
      injection h with h h'
      injection h' with h' h''
      injection h'' with h'' _
      exact ⟨Kd.w_inj (Sum.inr.inj h), Sum.inl.inj h', fun _ => Sum.inl.inj h''⟩
theorem inP_key {p q : Pc} (h : p.key = q.key) (d : Int) : inP p d = inP q d := by
  obtain ⟨h1, h2, h3⟩ := key_inj h
  unfold inP
  cases hk : q.k with
  | one => rw [h1, hk, h2]
  | up | dn | ev =>
    have e := h3 (by rw [h1, hk]; decide)
    rw [h1, hk, h2, e]
theorem good_key {p q : Pc} (h : p.key = q.key) (g : q.good) : p.good := fun n => by
  obtain ⟨h1, h2, h3⟩ := key_inj h
  rw [h3 n]
  exact g (by rw [← h1]; exact n)
/-- steps of at most nine -/
def Nine (ps : List Pc) : Prop := ∀ p ∈ ps, p.k ≠ .one → 1 ≤ p.s ∧ p.s ≤ 9
theorem Nine.few {ps : List Pc} (h : Nine ps) : Few ps := fun S nd hS => by
  have := nodup_le (M := ([1, 2, 3, 4, 5, 6, 7, 8, 9] : List Int)) nd fun x hx => by
    obtain ⟨p, hp, n, e⟩ := hS x hx
    have := h p hp n
    simp only [List.mem_cons, List.not_mem_nil, or_false]
    omega
  have : S.length ≤ 9 := this
  omega
theorem Few.one {ps : List Pc} (c : Int) (h : ∀ p ∈ ps, p.k ≠ .one → p.s = c) : Few ps := fun S nd hS => by
  have := nodup_le (M := [c]) nd fun x hx => by
    obtain ⟨p, hp, n, e⟩ := hS x hx
    rw [← e, h p hp n]
    exact List.mem_singleton.mpr rfl
  have : S.length ≤ 1 := this
  omega
/-- the narrow steps are few, and together at most B -/
def UB (T : List (Int × Int × Int)) (B : Nat) : Prop := ∀ ss : List Int, ss.Nodup → (∀ s ∈ ss, ∃ t ∈ T, t.1 = s) → (ss.map Int.toNat).sum ≤ B ∧ ss.length < 64
theorem sum_le {ss : List Int} {m : Nat} (h : ∀ s ∈ ss, s.toNat ≤ m) : (ss.map Int.toNat).sum ≤ ss.length * m := by
  induction ss with
  | nil => simp
  | cons s r ih =>
    have h1 := h s List.mem_cons_self
    have h2 := ih fun x hx => h x (List.mem_cons_of_mem _ hx)
    rw [List.map_cons, List.sum_cons, List.length_cons, Nat.add_mul]
    omega
theorem UB.nine {ps qs : List Pc} (hp : Nine ps) (hq : Nine qs) : UB (pairsU ps qs) 81 := fun ss nd h => by
  have hs : ∀ s ∈ ss, 1 ≤ s ∧ s ≤ 9 := fun s hms => by
    obtain ⟨t, ht, rfl⟩ := h s hms
    obtain ⟨m, hm, y, hy, km, ky, rfl⟩ := mem_pairsU.mp ht
    have := hp m hm (by rw [km]; decide)
    have := hq y hy (by rw [ky]; decide)
    show 1 ≤ min m.s y.s ∧ min m.s y.s ≤ 9
    omega
  have hl := nodup_le (M := ([1, 2, 3, 4, 5, 6, 7, 8, 9] : List Int)) nd fun x hx => by
    have := hs x hx
    simp only [List.mem_cons, List.not_mem_nil, or_false]
    omega
  have hl : ss.length ≤ 9 := hl
  have := sum_le (ss := ss) (m := 9) fun s m => by have := hs s m; omega
  have : ss.length * 9 ≤ 9 * 9 := Nat.mul_le_mul_right 9 hl
  exact ⟨by omega, by omega⟩
theorem UB.single {a b : Int} (ha : 1 ≤ a) (hb : 1 ≤ b) (h : a ≤ 1000) : UB (pairsU [⟨.up, 0, a⟩] [⟨.up, 0, b⟩]) 1000 := fun ss nd hh => by
  have hs : ∀ s ∈ ss, s = min a b := fun s m => by
    obtain ⟨t, ht, rfl⟩ := hh s m
    obtain ⟨m, hm, y, hy, km, ky, rfl⟩ := mem_pairsU.mp ht
    rw [List.mem_singleton.mp hm, List.mem_singleton.mp hy]
    rfl
  have hl := nodup_le (M := [min a b]) nd fun x hx => List.mem_singleton.mpr (hs x hx)
  have hl : ss.length ≤ 1 := hl
  have := sum_le (ss := ss) (m := 1000) fun s m => by have := hs s m; omega
  have : ss.length * 1000 ≤ 1 * 1000 := Nat.mul_le_mul_right 1000 hl
  exact ⟨by omega, by omega⟩
theorem UB.none (T : List (Int × Int × Int)) (h : T = []) : UB T 0 := fun ss nd hh => by
  subst h
  cases ss with
  | nil => exact ⟨Nat.le_refl _, by simp⟩
  | cons s r => obtain ⟨t, ht, _⟩ := hh s List.mem_cons_self; exact absurd ht List.not_mem_nil
/-- pieces pl stand for all plain sums -/
structure PlS (ps qs pl : List Pc) : Prop where
  so : ∀ p ∈ pl, ∃ m ∈ ps, ∃ y ∈ qs, plainC m y ∧ p.key = (plainS m y).key
  co : ∀ m ∈ ps, ∀ y ∈ qs, plainC m y → ∃ p ∈ pl, p.key = (plainS m y).key
def allL (pl us ds : List Pc) : List Pc := pl ++ (us ++ ds.map Pc.tn)
theorem allL_in {ps qs pl us ds : List Pc} {T T' : List (Int × Int × Int)} (gp : ∀ p ∈ ps, p.good) (gq : ∀ p ∈ qs, p.good) (hpl : PlS ps qs pl) (hT : ∀ t, t ∈ T ↔ t ∈ pairsU ps qs) (hu : UpS T us) (hT' : ∀ t, t ∈ T' ↔ t ∈ pairsU (ps.map Pc.tn) (qs.map Pc.tn)) (hd : UpS T' ds) :
    (∀ p ∈ allL pl us ds, p.good) ∧ ∀ d, inPs (allL pl us ds) d = true ↔ ∃ x, inPs ps x = true ∧ inPs qs (d - x) = true := by
  have gp' : ∀ p ∈ ps.map Pc.tn, p.good := fun p hp => by obtain ⟨q, hq, rfl⟩ := List.mem_map.mp hp; exact Pc.tn_good (gp q hq)
  have gq' : ∀ p ∈ qs.map Pc.tn, p.good := fun p hp => by obtain ⟨q, hq, rfl⟩ := List.mem_map.mp hp; exact Pc.tn_good (gq q hq)
  have nu : ∀ {p : Pc}, p.k = .up → p.k ≠ .one := fun e => by rw [e]; decide
  have gus : ∀ {ps qs us : List Pc} {T : List (Int × Int × Int)}, (∀ p ∈ ps, p.good) → (∀ p ∈ qs, p.good) → (∀ t, t ∈ T ↔ t ∈ pairsU ps qs) → UpS T us → ∀ p ∈ us, p.good := fun gp gq hT h p hp _ => by
    obtain ⟨_, t, ht, e⟩ := h.up p hp
    obtain ⟨m, hm, y, hy, km, ky, rfl⟩ := mem_pairsU.mp ((hT t).mp ht)
    rw [e]
    have := gp _ hm (nu km)
    have := gq _ hy (nu ky)
    show 1 ≤ min m.s y.s
    omega
  have gu := gus gp gq hT hu
  have gd := gus gp' gq' hT' hd
  have gpl : ∀ p ∈ pl, p.good := fun p hp => by
    obtain ⟨m, hm, y, hy, c, e⟩ := hpl.so p hp
    exact good_key e (plainS_good (gp m hm) (gq y hy))
  refine ⟨fun p hp => ?_, fun d => ?_⟩
  · rcases List.mem_append.mp hp with hp | hp
    · exact gpl p hp
    · rcases List.mem_append.mp hp with hp | hp
      · exact gu p hp
      · obtain ⟨q, hq, rfl⟩ := List.mem_map.mp hp
        exact Pc.tn_good (gd q hq)
  · have e1 : inPs (allL pl us ds) d = (inPs pl d || (inPs us d || inPs ds (-d))) := by
      rw [← inPs_tn gd]
      unfold inPs allL
      rw [List.any_append, List.any_append]
    have ed : inPs ds (-d) = true ↔ ∃ m ∈ ps, ∃ y ∈ qs, m.k = .dn ∧ y.k = .dn ∧ ∃ x, inP m x = true ∧ inP y (d - x) = true := by
      rw [upS_in hT' hd gp' gq' (-d)]
      constructor
      · rintro ⟨m', hm', y', hy', km, ky, x, h1, h2⟩
        obtain ⟨m, hm, rfl⟩ := List.mem_map.mp hm'
        obtain ⟨y, hy, rfl⟩ := List.mem_map.mp hy'
        rw [inP_tn (gp m hm)] at h1
        rw [inP_tn (gq y hy)] at h2
        refine ⟨m, hm, y, hy, ?_, ?_, -x, h1, by rw [show d - -x = -(-d - x) from by omega]; exact h2⟩
        · have km : m.k.tn = .up := km
          cases hk : m.k <;> rw [hk] at km <;> first | rfl | cases km
        · have ky : y.k.tn = .up := ky
          cases hk : y.k <;> rw [hk] at ky <;> first | rfl | cases ky
      · rintro ⟨m, hm, y, hy, km, ky, x, h1, h2⟩
        refine ⟨m.tn, List.mem_map_of_mem hm, y.tn, List.mem_map_of_mem hy, by show m.k.tn = _; rw [km]; rfl, by show y.k.tn = _; rw [ky]; rfl, -x, ?_, ?_⟩
        · rw [inP_tn (gp m hm), Int.neg_neg]
          exact h1
        · rw [inP_tn (gq y hy), show -(-d - -x) = d - x from by omega]
          exact h2
    rw [e1, Bool.or_eq_true, Bool.or_eq_true, ed, upS_in hT hu gp gq d]
    constructor
    · rintro (h | ⟨m, hm, y, hy, _, _, x, h1, h2⟩ | ⟨m, hm, y, hy, _, _, x, h1, h2⟩)
      · obtain ⟨p, hp, hi⟩ := inPs_iff.mp h
        obtain ⟨m, hm, y, hy, c, e⟩ := hpl.so p hp
        rw [inP_key e] at hi
        obtain ⟨x, h1, h2⟩ := (plainS_in (gp m hm) (gq y hy) c d).mp hi
        exact ⟨x, inPs_iff.mpr ⟨m, hm, h1⟩, inPs_iff.mpr ⟨y, hy, h2⟩⟩
      · exact ⟨x, inPs_iff.mpr ⟨m, hm, h1⟩, inPs_iff.mpr ⟨y, hy, h2⟩⟩
      · exact ⟨x, inPs_iff.mpr ⟨m, hm, h1⟩, inPs_iff.mpr ⟨y, hy, h2⟩⟩
    · rintro ⟨x, h1, h2⟩
      obtain ⟨m, hm, h1⟩ := inPs_iff.mp h1
      obtain ⟨y, hy, h2⟩ := inPs_iff.mp h2
      by_cases c1 : m.k = .up ∧ y.k = .up
      · exact .inr (.inl ⟨m, hm, y, hy, c1.1, c1.2, x, h1, h2⟩)
      · by_cases c2 : m.k = .dn ∧ y.k = .dn
        · exact .inr (.inr ⟨m, hm, y, hy, c2.1, c2.2, x, h1, h2⟩)
        · have c : plainC m y := by
            unfold plainC
            by_cases e : m.k = y.k
            · exact .inr ⟨fun z => c1 ⟨z, by rw [← e]; exact z⟩, fun z => c2 ⟨z, by rw [← e]; exact z⟩⟩
            · exact .inl e
          obtain ⟨p, hp, e⟩ := hpl.co m hm y hy c
          refine .inl (inPs_iff.mpr ⟨p, hp, ?_⟩)
          rw [inP_key e]
          exact (plainS_in (gp m hm) (gq y hy) c d).mpr ⟨x, h1, h2⟩
theorem allL_nine {ps qs pl us ds : List Pc} {T T' : List (Int × Int × Int)} (hp : Nine ps) (hq : Nine qs) (hpl : PlS ps qs pl) (hT : ∀ t, t ∈ T ↔ t ∈ pairsU ps qs) (hu : UpS T us) (hT' : ∀ t, t ∈ T' ↔ t ∈ pairsU (ps.map Pc.tn) (qs.map Pc.tn)) (hd : UpS T' ds) : Nine (allL pl us ds) := by
  have tn9 : ∀ {ps : List Pc}, Nine ps → Nine (ps.map Pc.tn) := fun h p hp n => by
    obtain ⟨q, hq, rfl⟩ := List.mem_map.mp hp
    exact h q hq (fun e => n (Kd.tn_one.mpr e))
  have nus : ∀ {ps qs us : List Pc} {T : List (Int × Int × Int)}, Nine ps → Nine qs → (∀ t, t ∈ T ↔ t ∈ pairsU ps qs) → UpS T us → Nine us := fun gp gq hT h p hp _ => by
    obtain ⟨_, t, ht, e⟩ := h.up p hp
    obtain ⟨m, hm, y, hy, km, ky, rfl⟩ := mem_pairsU.mp ((hT t).mp ht)
    have := gp m hm (by rw [km]; decide)
    have := gq y hy (by rw [ky]; decide)
    have e : p.s = min m.s y.s := e
    omega
  intro p hm n
  rcases List.mem_append.mp hm with hm | hm
  · obtain ⟨m, h1, y, h2, c, e⟩ := hpl.so p hm
    obtain ⟨e1, e2, e3⟩ := key_inj e
    rw [e3 n]
    rw [e1] at n
    unfold plainS at n ⊢
    by_cases k1 : m.k = .one
    · rw [if_pos k1] at n ⊢
      exact hq y h2 n
    · rw [if_neg k1] at n ⊢
      by_cases k2 : y.k = .one
      · rw [if_pos k2] at n ⊢
        exact hp m h1 n
      · rw [if_neg k2]
        have := hp m h1 k1
        have := gcdI_le (b := y.s) this.1
        have := gcdI_pos (b := y.s) (hp m h1 k1).1
        show 1 ≤ gcdI m.s y.s ∧ gcdI m.s y.s ≤ 9
        omega
  · rcases List.mem_append.mp hm with hm | hm
    · exact nus hp hq hT hu p hm n
    · exact tn9 (nus (tn9 hp) (tn9 hq) hT' hd) p hm n
/-! ### least, greatest, next -/
def loS (ps : List Pc) : Bool := ps.any fun p => decide (p.k = .dn) || decide (p.k = .ev)
def hiS (ps : List Pc) : Bool := ps.any fun p => decide (p.k = .up) || decide (p.k = .ev)
def minO (ns : List Int) : Option Int := if ns = [] then none else some (minF 0 ns)
def maxO (ns : List Int) : Option Int := if ns = [] then none else some (maxF 0 ns)
theorem minO_some {ns : List Int} {d : Int} (h : minO ns = some d) : d ∈ ns ∧ ∀ x ∈ ns, d ≤ x := by
  unfold minO at h
  by_cases e : ns = []
  · rw [if_pos e] at h; cases h
  · rw [if_neg e] at h
    cases h
    exact minF_mem e 0
theorem minO_none {ns : List Int} (h : minO ns = none) : ns = [] := by
  unfold minO at h
  by_cases e : ns = []
  · exact e
  · rw [if_neg e] at h; cases h
theorem maxO_some {ns : List Int} {d : Int} (h : maxO ns = some d) : d ∈ ns ∧ ∀ x ∈ ns, x ≤ d := by
  unfold maxO at h
  by_cases e : ns = []
  · rw [if_pos e] at h; cases h
  · rw [if_neg e] at h
    cases h
    exact maxF_mem e 0
theorem maxO_none {ns : List Int} (h : maxO ns = none) : ns = [] := by
  unfold maxO at h
  by_cases e : ns = []
  · exact e
  · rw [if_neg e] at h; cases h
def fromS (ps : List Pc) (low : Int) : Option Int := minO (ps.filterMap fun p => nextU p low)
def toS (ps : List Pc) (high : Int) : Option Int := maxO (ps.filterMap fun p => nextD p high)
theorem fromS_some {ps : List Pc} {low d : Int} (g : ∀ p ∈ ps, p.good) (h : fromS ps low = some d) : inPs ps d = true ∧ low ≤ d ∧ (∀ x, inPs ps x = true → low ≤ x → d ≤ x) ∧ ∃ p ∈ ps, d = p.a ∨ (p.k ≠ .one ∧ d < low + p.s) := by
  obtain ⟨h1, h2⟩ := minO_some h
  obtain ⟨p, hp, e⟩ := List.mem_filterMap.mp h1
  obtain ⟨a1, a2, a3, a4⟩ := nextU_some (g p hp) e
  refine ⟨inPs_iff.mpr ⟨p, hp, a1⟩, a2, fun x hx hl => ?_, p, hp, a4⟩
  obtain ⟨q, hq, hi⟩ := inPs_iff.mp hx
  cases eq : nextU q low with
  | none => have := nextU_none (g q hq) eq x hi; omega
  | some y =>
    have := h2 y (List.mem_filterMap.mpr ⟨q, hq, eq⟩)
    have := (nextU_some (g q hq) eq).2.2.1 x hi hl
    omega
theorem fromS_none {ps : List Pc} {low : Int} (g : ∀ p ∈ ps, p.good) (h : fromS ps low = none) (x : Int) (hx : inPs ps x = true) : x < low := by
  obtain ⟨q, hq, hi⟩ := inPs_iff.mp hx
  cases eq : nextU q low with
  | none => exact nextU_none (g q hq) eq x hi
  | some y =>
    have : y ∈ ps.filterMap fun p => nextU p low := List.mem_filterMap.mpr ⟨q, hq, eq⟩
    rw [minO_none h] at this
    exact absurd this List.not_mem_nil
theorem toS_some {ps : List Pc} {high d : Int} (g : ∀ p ∈ ps, p.good) (h : toS ps high = some d) : inPs ps d = true ∧ d ≤ high ∧ (∀ x, inPs ps x = true → x ≤ high → x ≤ d) ∧ ∃ p ∈ ps, d = p.a ∨ (p.k ≠ .one ∧ high - p.s < d) := by
  obtain ⟨h1, h2⟩ := maxO_some h
  obtain ⟨p, hp, e⟩ := List.mem_filterMap.mp h1
  obtain ⟨a1, a2, a3, a4⟩ := nextD_some (g p hp) e
  refine ⟨inPs_iff.mpr ⟨p, hp, a1⟩, a2, fun x hx hl => ?_, p, hp, a4⟩
  obtain ⟨q, hq, hi⟩ := inPs_iff.mp hx
  cases eq : nextD q high with
  | none => have := nextD_none (g q hq) eq x hi; omega
  | some y =>
    have := h2 y (List.mem_filterMap.mpr ⟨q, hq, eq⟩)
    have := (nextD_some (g q hq) eq).2.2.1 x hi hl
    omega
theorem toS_none {ps : List Pc} {high : Int} (g : ∀ p ∈ ps, p.good) (h : toS ps high = none) (x : Int) (hx : inPs ps x = true) : high < x := by
  obtain ⟨q, hq, hi⟩ := inPs_iff.mp hx
  cases eq : nextD q high with
  | none => exact nextD_none (g q hq) eq x hi
  | some y =>
    have : y ∈ ps.filterMap fun p => nextD p high := List.mem_filterMap.mpr ⟨q, hq, eq⟩
    rw [maxO_none h] at this
    exact absurd this List.not_mem_nil
/-! ### sums of drawn pieces are met near by -/
def Draw (p : Pc) : Prop := -30 ≤ p.a ∧ p.a ≤ 30 ∧ (p.k ≠ .one → 1 ≤ p.s ∧ p.s ≤ 9)
theorem shift_in {p : Pc} {x n : Int} (g : p.good) (h1 : p.k ≠ .one) (h : inP p x = true) (hn : (p.k = .up → p.a ≤ x + p.s * n) ∧ (p.k = .dn → x + p.s * n ≤ p.a)) : inP p (x + p.s * n) = true := by
  have gs := g h1
  obtain ⟨t, ht, rfl⟩ := (inP_iff h1 g _).mp h
  refine (inP_iff h1 g _).mpr ⟨t + n, ?_, by rw [Int.mul_add]; omega⟩
  have e : p.s * (t + n) = p.s * t + p.s * n := Int.mul_add _ _ _
  cases hk : p.k with
  | one => exact absurd hk h1
  | ev => exact trivial
  | up =>
    have := hn.1 hk
    exact (mul_pos_iff gs).mp (by omega)
  | dn =>
    have := hn.2 hk
    exact (mul_npos_iff gs).mp (by omega)
/-- a whole number of periods brings x into a window that is one period wide -/
theorem window {L : Int} (hL : 1 ≤ L) (x lo : Int) : ∃ n : Int, lo ≤ x + L * n ∧ x + L * n < lo + L := by
  have e0 := Int.emod_nonneg (x - lo) (show L ≠ 0 by omega)
  have e1 := Int.emod_lt_of_pos (x - lo) (show 0 < L by omega)
  have e2 := Int.emod_add_mul_ediv (x - lo) L
  exact ⟨-((x - lo) / L), by rw [Int.mul_neg]; omega, by rw [Int.mul_neg]; omega⟩
theorem sum_near {m y : Pc} {d x : Int} (dm : Draw m) (dy : Draw y) (hd : -45 ≤ d ∧ d ≤ 45) (h1 : inP m x = true) (h2 : inP y (d - x) = true) : ∃ x', -200 ≤ x' ∧ x' ≤ 200 ∧ inP m x' = true ∧ inP y (d - x') = true := by
  have gm : m.good := fun n => (dm.2.2 n).1
  have gy : y.good := fun n => (dy.2.2 n).1
  obtain ⟨m1, m2, m3⟩ := dm
  obtain ⟨y1, y2, y3⟩ := dy
  by_cases k1 : m.k = .one
  · have := (inP_one k1 _).mp h1
    exact ⟨x, by omega, by omega, h1, h2⟩
  · by_cases k2 : y.k = .one
    · have := (inP_one k2 _).mp h2
      exact ⟨x, by omega, by omega, h1, h2⟩
    · have s1 := m3 k1
      have s2 := y3 k2
      have L1 : 1 ≤ m.s * y.s := by
        have := Int.mul_le_mul (show (1 : Int) ≤ m.s by omega) (show (1 : Int) ≤ y.s by omega) (by omega) (by omega)
        omega
      have L2 : m.s * y.s ≤ 81 := by
        have := Int.mul_le_mul (show m.s ≤ 9 by omega) (show y.s ≤ 9 by omega) (by omega) (by omega)
        omega
      have go : ∀ n : Int, -200 ≤ x + m.s * y.s * n → x + m.s * y.s * n ≤ 200 → (m.k = .up → m.a ≤ x + m.s * y.s * n) → (m.k = .dn → x + m.s * y.s * n ≤ m.a) → (y.k = .up → y.a ≤ d - (x + m.s * y.s * n)) → (y.k = .dn → d - (x + m.s * y.s * n) ≤ y.a) →
          ∃ x', -200 ≤ x' ∧ x' ≤ 200 ∧ inP m x' = true ∧ inP y (d - x') = true := fun n b1 b2 u1 u2 u3 u4 => by
        have e1 : m.s * y.s * n = m.s * (y.s * n) := Int.mul_assoc _ _ _
        have e2 : d - (x + m.s * y.s * n) = (d - x) + y.s * (-(m.s * n)) := by
          rw [Int.mul_neg, ← Int.mul_assoc, Int.mul_comm y.s m.s]
          omega
        refine ⟨x + m.s * y.s * n, b1, b2, ?_, ?_⟩
        · rw [e1] at u1 u2 ⊢
          exact shift_in gm k1 h1 ⟨u1, u2⟩
        · rw [e2] at u3 u4 ⊢
          exact shift_in gy k2 h2 ⟨u3, u4⟩
      have hx : m.k = .up → m.a ≤ x := fun e => by
        obtain ⟨t, ht, rfl⟩ := (inP_iff k1 gm _).mp h1
        rw [e] at ht
        have := (mul_pos_iff s1.1).mpr ht
        omega
      have hx' : m.k = .dn → x ≤ m.a := fun e => by
        obtain ⟨t, ht, rfl⟩ := (inP_iff k1 gm _).mp h1
        rw [e] at ht
        have := (mul_npos_iff s1.1).mpr ht
        omega
      have hy : y.k = .up → y.a ≤ d - x := fun e => by
        obtain ⟨t, ht, e2⟩ := (inP_iff k2 gy _).mp h2
        rw [e] at ht
        have := (mul_pos_iff s2.1).mpr ht
        omega
      have hy' : y.k = .dn → d - x ≤ y.a := fun e => by
        obtain ⟨t, ht, e2⟩ := (inP_iff k2 gy _).mp h2
        rw [e] at ht
        have := (mul_npos_iff s2.1).mpr ht
        omega
      by_cases ku : m.k = .up
      · by_cases kv : y.k = .up
        · have := hx ku
          have := hy kv
          exact ⟨x, by omega, by omega, h1, h2⟩
        · obtain ⟨n, n1, n2⟩ := window L1 x 75
          exact go n (by omega) (by omega) (fun _ => by omega) (fun e => by rw [ku] at e; cases e) (fun e => absurd e kv) (fun _ => by omega)
      · by_cases kd : m.k = .dn
        · by_cases kv : y.k = .dn
          · have := hx' kd
            have := hy' kv
            exact ⟨x, by omega, by omega, h1, h2⟩
          · obtain ⟨n, n1, n2⟩ := window L1 x (-156)
            exact go n (by omega) (by omega) (fun e => absurd e ku) (fun _ => by omega) (fun _ => by omega) (fun e => absurd e kv)
        · by_cases kv : y.k = .dn
          · obtain ⟨n, n1, n2⟩ := window L1 x 75
            exact go n (by omega) (by omega) (fun e => absurd e ku) (fun e => absurd e kd) (fun e => by rw [kv] at e; cases e) (fun _ => by omega)
          · obtain ⟨n, n1, n2⟩ := window L1 x (-156)
            exact go n (by omega) (by omega) (fun e => absurd e ku) (fun e => absurd e kd) (fun _ => by omega) (fun e => absurd e kv)
end Wd
end
section
set_option Elab.async false
set_option linter.all false
set_option maxRecDepth 100000
set_option maxHeartbeats 2000000
set_option pp.maxSteps 600
/-! len(o), x in o of an instance with own __len__ and __contains__. -/
namespace Wd
open PySem PySem.Spec PyProof.Rows L2
section
variable {X : Cx} {CX : CXT} {k n : Nat} {m : Str} {C f : Addr} {fd : FuncData} {ps : List Str} {sp : Sp} {E : XK} {pins : List (Addr × Obj)} {σ : L2.St} {H : Hp} {s : Shared} {A1 : Around}
theorem own_run {us : List Value} {vs : List V} {Q : VK} (sb : Sub X k A1) (F : FnOk X.prog X.w X.K X.mg X.base CX k f fd ps sp) (hb : Binds X.K fd ps []) (hx : Passes CX X E) (I : Inv X pins σ H s) (r : Vals vs us) (h : sp vs H Q E) :
    wpAny (model X.prog X.w) A1 (call (.ref f) us) (EP X pins σ Q) X.xe s := by
  have e0 : Env0 X.prog X.w X.K X.mg X.base A1 X.stack s H := by
    have e := I.env0
    exact ⟨by rw [sb.fr]; exact e.frames, e.mod, e.bs, e.bsz, e.funs, e.frf, e.hok, e.bare⟩
  have hl : (us ++ []).length = ps.length := by rw [List.append_nil, ← r.length]; exact F.len _ _ _ _ h
  have hb' := hb s us I.kIn hl
  rw [List.append_nil] at hb'
  refine wpAny_call (codeAny_mono (F.run A1 X.stack s H ⟨us, []⟩ us vs Q E sb.room e0 hb' r h) fun r s' hq => ?_)
  cases r with
  | error e => exact hx pins σ H s e s' I hq
  | ok fl =>
    cases fl with
    | ret u => exact I.after hq
    | next => exact False.elim hq
    | brk => exact False.elim hq
    | cont => exact False.elim hq
/-- len(o) -/
def rLenOwn (C : Addr) (sp : Sp) (E : XK) : List V → Hp → VK → Prop := fun xs H Q => ∃ a dx fs, xs = [.ref a] ∧ H a = some (.ins C dx fs) ∧ sp [.ref a] H (fun v H' => ∃ n : Nat, v = .int n ∧ n ≤ sizeLine ∧ Q (.int n) H') E
theorem call_lenOwn (M : Md X.prog X.w X.K X.mg X.base C CX k "__len__" ps sp) (hr : Room (k + 1) X.A) (hx : Passes CX X E) : CallR X (.builtin "len") (rLenOwn C sp E) := by
  intro pins s σ H xs us Q I r h
  obtain ⟨a, dx, fs, rfl, ha, q⟩ := h
  obtain ⟨u, rfl, ru⟩ := r.one
  cases ru
  obtain ⟨f, fd, hm, G, hb⟩ := M.ex
  obtain ⟨mA, J, _⟩ := ins_get I.hok ha
  obtain ⟨od, J, _⟩ := J.look
  refine Calls.call_function_entry kind_len plain_len entry_len (args_len1 _) ?_
  unfold Builtin.«len»
  refine wpAny_bind (m := oneArg "len" _) (wpAny_pure ?_)
  have r2 : Vals [V.ref a] [Value.ref a] := .cons rfl .nil
  refine wpAny_bind (m := callSpecial? (.ref a) (Str.ofString "__len__")) (PySem.W.special_fn I.kIn J hm.at_ (beq_iff_eq.mp hm.fn) (wpAny_mono (own_run (Sub.in1 ⟨hr, rfl⟩) G hb hx I r2 q) (fun r s' hr => ?_) fun _ _ y => y))
  obtain ⟨v, H', I', rv, n, rfl, hn, q'⟩ := hr
  obtain ⟨t, rfl⟩ := rv
  have hs : sizeLine = 16777216 := sizeLine_eq
  refine wpAny_bind (wpAny_holding (wpAny_pure ?_))
  refine wpAny_bind (wpAny_letGo ?_)
  show wpAny _ _ (if (n : Int) < 0 then _ else _) _ _ _
  rw [if_neg (by omega)]
  show wpAny _ _ (if (n : Int) ≥ 2 ^ 63 then _ else _) _ _ _
  rw [if_neg (by omega)]
  exact wpAny_bind (wpAny_mkInt (wpAny_pure ⟨_, rfl, .int n, H', I'.tok _, ⟨_, rfl⟩, q'⟩))
/-- x in o -/
def rInOwn (C : Addr) (sp : Sp) (E : XK) (g : Bool → Bool) : R2 := fun x y H Q => ∃ a dx fs, y = .ref a ∧ H a = some (.ins C dx fs) ∧ sp [.ref a, x] H (fun v H' => ∃ b : Bool, v = .bl b ∧ Q (.bl (g b)) H') E
theorem contains_own {x : V} {u : Value} {a dx : Addr} {fs : List (Str × V)} {Q : Bool → Hp → Prop} (M : Md X.prog X.w X.K X.mg X.base C CX k "__contains__" ps sp) (hr : Room k X.A) (hx : Passes CX X E) (I : Inv X pins σ H s) (ru : RelV x u) (ha : H a = some (.ins C dx fs))
    (h : sp [.ref a, x] H (fun v H' => ∃ b : Bool, v = .bl b ∧ Q b H') E) : wpAny (model X.prog X.w) X.A (contains (.ref a) u) (TP X pins σ Q) X.xe s := by
  obtain ⟨f, fd, hm, G, hb⟩ := M.ex
  obtain ⟨mA, J, _⟩ := ins_get I.hok ha
  obtain ⟨od, J, _⟩ := J.look
  unfold contains
  refine wpAny_holding ?_
  show wpAny _ _ (specialOf (.ref a) "__contains__" >>= _) _ _ _
  refine wpAny_bind (wpAny_bind (J.type.here ((PySem.W.looks_findIn I.kIn hm.at_).here ?_)))
  show wpAny _ _ (if (some (Value.ref f) == some Value.none) = true then _ else _) _ _ _
  rw [if_neg (by simp)]
  unfold callSpecialUnlessNone?
  refine wpAny_bind (wpAny_bind (wpAny_bind (J.type.here ((PySem.W.looks_findIn I.kIn hm.at_).here ?_))))
  refine wpAny_holding (wpAny_bind ((PySem.W.bind_fn I.kIn _ (beq_iff_eq.mp hm.fn)).here ?_))
  show wpAny _ _ (if (Value.ref f == Value.none) = true then _ else _) _ _ _
  rw [if_neg (show ¬ ((Value.ref f == Value.none) = true) from Bool.false_ne_true)]
  have r2 : Vals [V.ref a, x] [Value.ref a, u] := .cons rfl (.cons ru .nil)
  refine wpAny_bind (wpAny_mono (own_run ⟨hr, rfl⟩ G hb hx I r2 h) (fun r s' hq => ?_) fun _ _ y => y)
  obtain ⟨v, H', I', rv, b, rfl, q'⟩ := hq
  cases rv
  refine wpAny_pure ?_
  exact wpAny_truthy_bool ⟨H', I', q'⟩
theorem op_inOwn (M : Md X.prog X.w X.K X.mg X.base C CX k "__contains__" ps sp) (hr : Room k X.A) (hx : Passes CX X E) : OpR X (compareOp .In) (rInOwn C sp E id) := by
  intro pins s σ H x y v u Q I rx ry h
  obtain ⟨a, dx, fs, rfl, ha, q⟩ := h
  cases ry
  show wpAny _ _ (do return Value.bool (← contains (.ref a) v)) _ _ _
  refine wpAny_bind (wpAny_mono (contains_own (Q := fun b H' => Q (.bl b) H') M hr hx I rx ha q) (fun b s' hb => ?_) fun _ _ y => y)
  obtain ⟨H', I', q'⟩ := hb
  exact wpAny_pure ⟨.bl b, H', I', rfl, q'⟩
theorem op_notinOwn (M : Md X.prog X.w X.K X.mg X.base C CX k "__contains__" ps sp) (hr : Room k X.A) (hx : Passes CX X E) : OpR X (compareOp .NotIn) (rInOwn C sp E (!·)) := by
  intro pins s σ H x y v u Q I rx ry h
  obtain ⟨a, dx, fs, rfl, ha, q⟩ := h
  cases ry
  show wpAny _ _ (do return Value.bool (!(← contains (.ref a) v))) _ _ _
  refine wpAny_bind (wpAny_mono (contains_own (Q := fun b H' => Q (.bl (!b)) H') M hr hx I rx ha q) (fun b s' hb => ?_) fun _ _ y => y)
  obtain ⟨H', I', q'⟩ := hb
  exact wpAny_pure ⟨.bl (!b), H', I', rfl, q'⟩
end
end Wd
end
section
set_option Elab.async false
set_option linter.all false
set_option maxRecDepth 100000
set_option maxHeartbeats 2000000
set_option pp.maxSteps 900
/-! min, max of a list of whole numbers with any default; a + b, a | b of two instances of one class. -/
namespace Wd
open PySem PySem.Spec PyProof.Rows L2 PySem.W
def ovI : Option Int → V
  | some i => .int i
  | none => .non
section
variable {X : Cx}
def rMinN (K : PySem.W.Frag) : List V → List V → Hp → VK → Prop := fun xs zs H Q => ∃ (a : Addr) (ns : List Int), xs = [.ref a] ∧ zs = [.non] ∧ SqL K H a (ns.map V.int) ∧ Q (ovI (minO ns)) H
def rMaxN (K : PySem.W.Frag) : List V → List V → Hp → VK → Prop := fun xs zs H Q => ∃ (a : Addr) (ns : List Int), xs = [.ref a] ∧ zs = [.non] ∧ SqL K H a (ns.map V.int) ∧ Q (ovI (maxO ns)) H
theorem call_minN (hc : X.calm = true) (hu : X.A.units + 1 < cLine) : CallRK X (.builtin "min") ["default"] (rMinN X.K) := by
  intro pins s σ H xs zs us ws Q I r1 r2 h
  obtain ⟨a, ns, rfl, rfl, hs, q⟩ := h
  cases r1 with
  | cons r1 r1' =>
  cases r1'
  cases r1
  cases r2 with
  | cons r2 r2' =>
  cases r2'
  obtain ⟨its, rv, hl, hlen⟩ := I.list hs
  refine min_list_default (I.ok.hd hc) hl.isList (reads_ints rv) (alike_ints ns) (by rw [depth_ints]; exact hu) (fun e h' tk kp => ?_) fun y ys i v h' tk bs e hv r kp => ?_
  · have e0 : ns = [] := List.map_eq_nil_iff.mp e
    subst e0
    exact ⟨.non, H, I.kept kp, r2, q⟩
  · cases ns with
    | nil => cases e
    | cons n r' =>
      rw [List.map_cons] at e
      injection e with e1 e2
      subst e1 e2
      rw [minD_ints] at r
      exact ⟨.int _, H, I.kept kp, reads_int_val r, q⟩
theorem call_maxN (hc : X.calm = true) (hu : X.A.units + 1 < cLine) : CallRK X (.builtin "max") ["default"] (rMaxN X.K) := by
  intro pins s σ H xs zs us ws Q I r1 r2 h
  obtain ⟨a, ns, rfl, rfl, hs, q⟩ := h
  cases r1 with
  | cons r1 r1' =>
  cases r1'
  cases r1
  cases r2 with
  | cons r2 r2' =>
  cases r2'
  obtain ⟨its, rv, hl, hlen⟩ := I.list hs
  refine max_list_default (I.ok.hd hc) hl.isList (reads_ints rv) (alike_ints ns) (by rw [depth_ints]; exact hu) (fun e h' tk kp => ?_) fun y ys i v h' tk bs e hv r kp => ?_
  · have e0 : ns = [] := List.map_eq_nil_iff.mp e
    subst e0
    exact ⟨.non, H, I.kept kp, r2, q⟩
  · cases ns with
    | nil => cases e
    | cons n r' =>
      rw [List.map_cons] at e
      injection e with e1 e2
      subst e1 e2
      rw [maxD_ints] at r
      exact ⟨.int _, H, I.kept kp, reads_int_val r, q⟩
/-- a + b, both instances of the class C -/
def rBinS (C : Addr) (sp : Sp) : R2 := fun x y H Q => ∃ a dx fs b dy gs, x = .ref a ∧ y = .ref b ∧ H a = some (.ins C dx fs) ∧ H b = some (.ins C dy gs) ∧ sp [.ref a, .ref b] H Q (fun _ _ _ => False)
theorem op_binS {CX : CXT} {k : Nat} {C : Addr} {ps : List Str} {sp : Sp} {op : Operator} (M : Md X.prog X.w X.K X.mg X.base C CX k (PySem.dunder op.info.2) ps sp) (hr : Room k X.A) (hc : PySem.W.selfFirst X.K C = true) (hx : Passes CX X (fun _ _ _ => False)) : OpR X (binaryOp op) (rBinS C sp) := by
  intro pins s σ H x y v u Q I rx ry h
  obtain ⟨a, dx, fs, b, dy, gs, rfl, rfl, ha, hb, q⟩ := h
  obtain rfl : v = Value.ref a := rx
  obtain rfl : u = Value.ref b := ry
  obtain ⟨f, fd, hm, G, bd⟩ := M.ex
  obtain ⟨mA, J, _⟩ := ins_get I.hok ha
  obtain ⟨od, J, _⟩ := J.look
  obtain ⟨mB, J', _⟩ := ins_get I.hok hb
  obtain ⟨od', J', _⟩ := J'.look
  obtain ⟨m, hF⟩ := I.fr
  refine PySem.W.binop_K hF I.ok.mod.kin J J'.type hc hm.at_ hm.fn ?_
  refine wpAny_mono (run_fn (us := [.ref a, .ref b]) (vs := [.ref a, .ref b]) G hr bd .nil hx I (.cons rfl (.cons rfl .nil)) q) (fun w s' z => ?_) fun _ _ x => x
  obtain ⟨z', H', I', rz, qz⟩ := z
  exact SlX.cmpback rz ⟨z', H', I', rz, qz⟩
end
/-- the dict TURNED of the top -/
structure Tt (K : PySem.W.Frag) (w : World) : Prop where
  tk : ∀ k : Kd, KDct K w (He.ga K "TURNED") k.w (.str k.tn.w)
end Wd
end
section
set_option Elab.async false
set_option linter.all false
set_option maxRecDepth 100000
set_option maxHeartbeats 2000000
set_option pp.maxSteps 900
/-! ### turned, next_up, next_down, _plain_sum -/
namespace Wd
open PySem PySem.Spec PyProof.Rows L2 Wt TL NumText
theorem cut2 (p : Pc) : cutV p.vals (some 2) none = if p.k = .one then [] else [.int p.s] := by
  unfold Pc.vals
  split <;> rfl
theorem cut02 (p : Pc) : cutV p.vals none (some 2) = [.str p.k.w, .int p.a] := by
  unfold Pc.vals
  split
  · rename_i e
    rw [e]
    rfl
  · rfl
theorem vals_eq (k : Kd) (a s : Int) : [V.str k.w, V.int a] ++ ((if k = .one then [] else [V.int s]) ++ []) = (Pc.mk k a s).vals := by
  unfold Pc.vals
  by_cases h : k = .one
  · rw [if_pos h]
    show _ = (if k = .one then _ else _)
    rw [if_pos h, h]
    rfl
  · rw [if_neg h]
    show _ = (if k = .one then _ else _)
    rw [if_neg h]
    rfl
def spTurned : Sp := fun vs H Q _ => ∃ (t : Addr) (p : Pc), vs = [.ref t] ∧ H t = some (.tup p.vals) ∧ ∀ r H', Same H H' → H' r = some (.tup p.tn.vals) → Q (.ref r) H'
def spNextU : Sp := fun vs H Q _ => ∃ (t : Addr) (p : Pc) (low : Int), vs = [.ref t, .int low] ∧ H t = some (.tup p.vals) ∧ p.good ∧ ∀ H', Same H H' → Q (ovI (nextU p low)) H'
def spNextD : Sp := fun vs H Q _ => ∃ (t : Addr) (p : Pc) (high : Int), vs = [.ref t, .int high] ∧ H t = some (.tup p.vals) ∧ p.good ∧ ∀ H', Same H H' → Q (ovI (nextD p high)) H'
def spPlain : Sp := fun vs H Q _ => ∃ (t r : Addr) (p q : Pc), vs = [.ref t, .ref r] ∧ H t = some (.tup p.vals) ∧ H r = some (.tup q.vals) ∧ p.good ∧ q.good ∧ ∀ u H', Same H H' → H' u = some (.tup (plainS p q).vals) → Q (.ref u) H'
structure TmG (K : PySem.W.Frag) (mg : Str → Option Value) : Prop where
  gcd : mg "gcd" = some (.builtin "math.gcd")
section
variable {P : Program} {w : World} {K : PySem.W.Frag} {mg : Str → Option Value} {base : Heap} {f : Addr} {fd : FuncData}
theorem scTurned : FnScope ["piece"] ["piece"] (defScope (top i_turned)) := ⟨rfl, rfl, rfl, by decide +kernel, rfl, by decide +kernel, by decide +kernel⟩
theorem ok_turned (F : FnG K "turned" i_turned f fd) (T : Tx K mg) (Z : Tt K w) : FnOk P w K mg base CX0 1 f fd ["piece"] spTurned := by
  refine F.ok scTurned (fun vs H Q E h => ?_) (fun cdv A outer s H vs Q E hr h => ?_)
  · obtain ⟨t, p, rfl, _⟩ := h
    rfl
  · obtain ⟨t, p, rfl, tq, k⟩ := h
    refine ⟨_, PSs.nox (pss_one (ps_ret (pe_tup (pa_cons (pe_ix ix_kdict (pe_glob (v := .ref (He.ga K "TURNED")) rfl T.TURNED rfl) (pe_ix ix_tup (pv 0) pe_int (fun _ _ => rfl)) (fun _ _ => rfl)) (pa_cons (pe_un un_neg (pe_ix ix_tup (pv 0) pe_int (fun _ _ => rfl))) (StX.pa_star (pe_slice sl_tupU (pv 0) (po_some pe_int) po_none) pa_nil)))))), ?_⟩
    refine ⟨_, rfl, t, _, _, .str p.k.w, rfl, rfl, SqT.of tq, p.at0, _, _, _, rfl, rfl, Z.tk p.k, ?_⟩
    refine ⟨_, rfl, t, _, _, .int p.a, rfl, rfl, SqT.of tq, p.at1, p.a, rfl, ?_⟩
    refine ⟨_, rfl, 2, rfl, t, _, rfl, tq, fun c H1 s1 cq => ?_⟩
    rw [cut2] at cq
    refine ⟨c, _, rfl, .inl (SqT.of cq), ?_⟩
    refine ⟨?_, fun r hr0 => k r _ (s1.trans (same_upd hr0)) ?_⟩
    · have := sizeLine_eq
      by_cases h : p.k = .one
      · rw [if_pos h]; simp; omega
      · rw [if_neg h]; simp; omega
    · rw [upd_same]
      have e := vals_eq p.k.tn (-p.a) p.s
      have e3 : (if p.k.tn = .one then ([] : List V) else [V.int p.s]) = if p.k = .one then [] else [V.int p.s] := by
        by_cases h : p.k = .one
        · rw [if_pos h, if_pos (Kd.tn_one.mpr h)]
        · rw [if_neg h, if_neg (fun z => h (Kd.tn_one.mp z))]
      rw [e3] at e
      exact congrArg (fun z => some (HO.tup z)) e
theorem scNext_up : FnScope ["piece", "low", "word", "start"] ["piece", "low"] (defScope (top i_next_up)) := ⟨rfl, rfl, rfl, by decide +kernel, rfl, by decide +kernel, by decide +kernel⟩
theorem ok_nextup (F : FnG K "next_up" i_next_up f fd) (T : Tx K mg) : FnOk P w K mg base CX0 1 f fd ["piece", "low"] spNextU := by
  refine F.ok scNext_up (fun vs H Q E h => ?_) (fun cdv A outer s H vs Q E hr h => ?_)
  · obtain ⟨t, p, low, rfl, _⟩ := h
    rfl
  · obtain ⟨t, p, low, rfl, tq, g, k⟩ := h
    refine ⟨_, PSs.nox (pss_cons (ps_asg (pe_slice sl_tupU (pv 0) po_none (po_some pe_int)) (pg_tup rfl (pgs_cons (pg_name (i := 2) scNext_up.nd rfl (Or.inl rfl)) (pgs_cons (pg_name (i := 3) scNext_up.nd rfl (Or.inl rfl)) pgs_nil))))
        (pss_cons (ps_if (PW.pt (pw_and (pt_cmpR op_in_seq (pv 2) (pe_tup (pa_cons pe_str (pa_cons pe_str pa_nil))) (by rfl)) (pw_and1 (pt_cmpR op_le (pv 1) (pv 3) (nomark _))))) (pss_one (ps_ret (pv 3))) pss_nil)
        (pss_cons (ps_if (PW.pt (pw_or (pt_cmpR op_eq (pv 2) pe_str (nomark _)) (pw_or1 (PW.pt (pw_and (pt_cmpR op_eq (pv 2) pe_str (nomark _)) (pw_and1 (pt_cmpR op_gt (pv 1) (pv 3) (nomark _)))))))) (pss_one (ps_ret pe_non)) pss_nil)
        (pss_one (ps_ret (pe_op op_add (pv 1) (pe_op op_mod (pe_op op_sub (pv 3) (pv 1)) (pe_ix ix_tup (pv 0) pe_int (fun _ _ => rfl))))))))), ?_⟩
    refine ⟨_, rfl, 2, rfl, t, _, rfl, tq, fun c H1 s1 cq => ?_⟩
    rw [cut02] at cq
    refine ⟨c, _, rfl, SqT.of cq, rfl, _, _, rfl, _, _, rfl, rfl, ?_⟩
    dsimp only [tNext, gName]
    refine seq_by (fun σ' H' => σ' = [some (.ref t), some (.int low), some (.str p.k.w), some (.int p.a)] ∧ Same H H' ∧ ¬ ((p.k = .one ∨ p.k = .up) ∧ low ≤ p.a)) (fun Nx hN => ?_) ?_
    · refine ⟨_, rfl, (by show 2 ≤ sizeLine; decide), fun t1 ht1 => ?_⟩
      have s2 := s1.trans (same_upd (o := HO.tup [.str "one", .str "up"]) ht1)
      refine ⟨t1, _, rfl, .inr (SqT.of upd_same), rfl, rfl, _, rfl, ?_⟩
      have e1 : inV (.str p.k.w) [.str "one", .str "up"] = decide (p.k = .one ∨ p.k = .up) := by cases p.k <;> rfl
      rw [e1]
      refine ifQ (fun e => ?_) (fun e => ?_)
      · refine ⟨_, rfl, _, rfl, _, _, rfl, rfl, _, rfl, ifQ (fun e2 => ?_) (fun e2 => ?_)⟩
        · have k1 := k _ s2
          unfold nextU at k1
          rw [if_pos ⟨of_decide_eq_true e, of_decide_eq_true e2⟩] at k1
          exact ⟨_, rfl, k1⟩
        · exact hN _ _ ⟨rfl, s2, fun z => of_decide_eq_false e2 z.2⟩
      · exact hN _ _ ⟨rfl, s2, fun z => of_decide_eq_false e z.1⟩
    · rintro _ H2 ⟨rfl, s2, n1⟩
      have k1 := k _ s2
      unfold nextU at k1
      rw [if_neg n1] at k1
      refine seq_by (fun σ' H' => σ' = [some (.ref t), some (.int low), some (.str p.k.w), some (.int p.a)] ∧ H' = H2 ∧ ¬ (p.k = .one ∨ (p.k = .dn ∧ p.a < low))) (fun Nx hN => ?_) ?_
      · refine ⟨_, rfl, rfl, _, rfl, ifQ (fun e => ?_) (fun e => ?_)⟩
        · have ek : p.k = .one := Kd.w_inj (V.str.inj (of_decide_eq_true e))
          rw [if_pos (.inl ek)] at k1
          exact k1
        · have n2 : p.k ≠ .one := fun z => (of_decide_eq_false e) (by rw [z]; rfl)
          refine ⟨_, rfl, rfl, _, rfl, ifQ (fun e2 => ?_) (fun e2 => ?_)⟩
          · have ek : p.k = .dn := Kd.w_inj (V.str.inj (of_decide_eq_true e2))
            refine ⟨_, rfl, _, rfl, _, _, rfl, rfl, _, rfl, ifQ (fun e3 => ?_) (fun e3 => ?_)⟩
            · rw [if_pos (.inr ⟨ek, of_decide_eq_true e3⟩)] at k1
              exact k1
            · exact hN _ _ ⟨rfl, rfl, fun z => z.elim n2 fun y => of_decide_eq_false e3 y.2⟩
          · exact hN _ _ ⟨rfl, rfl, fun z => z.elim n2 fun y => (of_decide_eq_false e2) (by rw [y.1]; rfl)⟩
      · rintro _ _ ⟨rfl, rfl, n2⟩
        rw [if_neg n2] at k1
        have n3 : p.k ≠ .one := fun z => n2 (.inl z)
        have gs := g n3
        exact ⟨_, rfl, _, rfl, _, rfl, _, _, rfl, rfl, _, rfl, t, _, _, _, rfl, rfl, SqT.of (s2 _ _ tq), p.at2 n3, _, _, rfl, rfl, by omega, _, _, rfl, rfl, k1⟩
structure DND (P : Program) (w : World) (K : PySem.W.Frag) (mg : Str → Option Value) (base : Heap) : Prop where
  turned : Df P w K mg base CX0 1 "turned" ["piece"] spTurned
  next_up : Df P w K mg base CX0 1 "next_up" ["piece", "low"] spNextU
theorem scNext_down : FnScope ["piece", "high", "day"] ["piece", "high"] (defScope (top i_next_down)) := ⟨rfl, rfl, rfl, by decide +kernel, rfl, by decide +kernel, by decide +kernel⟩
theorem ok_nextdown (F : FnG K "next_down" i_next_down f fd) (D : DND P w K mg base) : FnOk P w K mg base CX0 2 f fd ["piece", "high"] spNextD := by
  refine F.ok scNext_down (fun vs H Q E h => ?_) (fun cdv A outer s H vs Q E hr h => ?_)
  · obtain ⟨t, p, low, rfl, _⟩ := h
    rfl
  · obtain ⟨t, p, high, rfl, tq, g, k⟩ := h
    refine ⟨_, PSs.nox (pss_cons (ps_set (i := 2) scNext_down.nd rfl (Or.inl rfl) (pe_cd D.next_up (hr.mono (by decide)) pass0 (pa_cons (pe_cd D.turned (hr.mono (by decide)) pass0 (pa_cons (pv 0) pa_nil)) (pa_cons (pe_un un_neg (pv 1)) pa_nil))))
        (pss_one (ps_ret (pe_ifExp (pt_cmpR op_isN (pv 2) pe_non (nomark _)) pe_non (pe_un un_neg (pv 2)))))), ?_⟩
    refine ⟨_, rfl, t, p, rfl, tq, fun r H1 s1 rq => ⟨_, rfl, _, rfl, r, p.tn, -high, rfl, rq, Pc.tn_good g, fun H2 s2 => ?_⟩⟩
    have k1 := k _ (s1.trans s2)
    unfold nextD at k1
    cases e : nextU p.tn (-high) with
    | none =>
      rw [e] at k1
      exact ⟨_, rfl, rfl, _, rfl, ifB rfl k1⟩
    | some d =>
      rw [e] at k1
      exact ⟨_, rfl, rfl, _, rfl, ifN rfl ⟨_, rfl, d, rfl, k1⟩⟩
theorem scPlain_sum : FnScope ["mine", "yours", "start", "step"] ["mine", "yours"] (defScope (top i__plain_sum)) := ⟨rfl, rfl, rfl, by decide +kernel, rfl, by decide +kernel, by decide +kernel⟩
theorem ok_plain (F : FnG K "_plain_sum" i__plain_sum f fd) (TG : TmG K mg) : FnOk P w K mg base CX0 1 f fd ["mine", "yours"] spPlain := by
  refine F.ok scPlain_sum (fun vs H Q E h => ?_) (fun cdv A outer s H vs Q E hr h => ?_)
  · obtain ⟨t, r, p, q, rfl, _⟩ := h
    rfl
  · obtain ⟨t, r, p, q, rfl, tq, rq, gp, gq, k⟩ := h
    refine ⟨_, PSs.nox (pss_cons (ps_set (i := 2) scPlain_sum.nd rfl (Or.inl rfl) (pe_op op_add (pe_ix ix_tup (pv 0) pe_int (fun _ _ => rfl)) (pe_ix ix_tup (pv 1) pe_int (fun _ _ => rfl))))
        (pss_cons (ps_if (pt_cmpR op_eq (pe_ix ix_tup (pv 0) pe_int (fun _ _ => rfl)) pe_str (nomark _)) (pss_one (ps_ret (pe_tup (pa_cons (pe_ix ix_tup (pv 1) pe_int (fun _ _ => rfl)) (pa_cons (pv 2) (StX.pa_star (pe_slice sl_tupU (pv 1) (po_some pe_int) po_none) pa_nil)))))) pss_nil)
        (pss_cons (ps_if (pt_cmpR op_eq (pe_ix ix_tup (pv 1) pe_int (fun _ _ => rfl)) pe_str (nomark _)) (pss_one (ps_ret (pe_tup (pa_cons (pe_ix ix_tup (pv 0) pe_int (fun _ _ => rfl)) (pa_cons (pv 2) (StX.pa_star (pe_slice sl_tupU (pv 0) (po_some pe_int) po_none) pa_nil)))))) pss_nil)
        (pss_cons (ps_set (i := 3) scPlain_sum.nd rfl (Or.inl rfl) (pe_callBfun cr_gcd (by rfl) TG.gcd (pa_cons (pe_ix ix_tup (pv 0) pe_int (fun _ _ => rfl)) (pa_cons (pe_ix ix_tup (pv 1) pe_int (fun _ _ => rfl)) pa_nil))))
        (pss_one (ps_ret (pe_tup (pa_cons pe_str (pa_cons (pe_op op_mod (pv 2) (pv 3)) (pa_cons (pv 3) pa_nil)))))))))), ?_⟩
    refine ⟨_, rfl, t, _, _, _, rfl, rfl, SqT.of tq, p.at1, _, rfl, r, _, _, _, rfl, rfl, SqT.of rq, q.at1, _, _, rfl, rfl, ?_⟩
    dsimp only [gName]
    have tl : ∀ (t : Addr) (p : Pc) (k : Kd) (a s : Int) (H2 : Hp) (c : Addr) (H3 : Hp) (Qq : V → Hp → Prop), H2 t = some (.tup p.vals) → Same H2 H3 → H3 c = some (.tup (cutV p.vals (some 2) none)) → (∀ u H', Same H3 H' → H' u = some (.tup (Pc.mk p.k a p.s).vals) → Qq (.ref u) H') →
        ∃ (p_1 : Addr) (xs : List V), V.ref c = .ref p_1 ∧ (SqT K H3 p_1 xs ∨ SqL K H3 p_1 xs) ∧ ((V.str p.k.w :: V.int a :: (xs ++ [])).length ≤ sizeLine ∧ ∀ u, H3 u = none → Qq (.ref u) (upd H3 u (.tup (V.str p.k.w :: V.int a :: (xs ++ []))))) := by
      intro t p k a s H2 c H3 Qq tq s3 cq h
      rw [cut2] at cq
      refine ⟨c, _, rfl, .inl (SqT.of cq), ?_, fun u hu0 => h u _ (same_upd hu0) ?_⟩
      · have := sizeLine_eq
        by_cases h : p.k = .one
        · rw [if_pos h]; simp; omega
        · rw [if_neg h]; simp; omega
      · rw [upd_same]
        exact congrArg (fun z => some (HO.tup z)) (vals_eq p.k a p.s)
    refine ⟨_, rfl, t, _, _, _, rfl, rfl, SqT.of tq, p.at0, rfl, _, rfl, ifQ (fun e => ?_) (fun e => ?_)⟩
    · have ek : p.k = .one := Kd.w_inj (V.str.inj (of_decide_eq_true e))
      refine ⟨_, rfl, r, _, _, _, rfl, rfl, SqT.of rq, q.at0, _, rfl, _, rfl, 2, rfl, r, _, rfl, rq, fun c H1 s1 cq => ?_⟩
      refine tl r q q.k _ q.s H c H1 _ rq s1 cq fun u H2 s2 uq => k u H2 (s1.trans s2) ?_
      rw [uq, show plainS p q = ⟨q.k, p.a + q.a, q.s⟩ from if_pos ek]
    · have nk : p.k ≠ .one := fun z => (of_decide_eq_false e) (by rw [z]; rfl)
      refine ⟨_, rfl, r, _, _, _, rfl, rfl, SqT.of rq, q.at0, rfl, _, rfl, ifQ (fun e => ?_) (fun e => ?_)⟩
      · have ek : q.k = .one := Kd.w_inj (V.str.inj (of_decide_eq_true e))
        refine ⟨_, rfl, t, _, _, _, rfl, rfl, SqT.of tq, p.at0, _, rfl, _, rfl, 2, rfl, t, _, rfl, tq, fun c H1 s1 cq => ?_⟩
        refine tl t p p.k _ p.s H c H1 _ tq s1 cq fun u H2 s2 uq => k u H2 (s1.trans s2) ?_
        rw [uq, show plainS p q = ⟨p.k, p.a + q.a, p.s⟩ from by unfold plainS; rw [if_neg nk, if_pos ek]]
      · have nq : q.k ≠ .one := fun z => (of_decide_eq_false e) (by rw [z]; rfl)
        have gg := gcdI_pos (b := q.s) (gp nk)
        refine ⟨_, rfl, t, _, _, _, rfl, rfl, SqT.of tq, p.at2 nk, _, rfl, r, _, _, _, rfl, rfl, SqT.of rq, q.at2 nq, p.s, q.s, rfl, ?_⟩
        refine ⟨_, rfl, _, rfl, p.a + q.a, gcdI p.s q.s, rfl, rfl, by omega, _, rfl, (by show 3 ≤ sizeLine; decide), fun u hu0 => k u _ (same_upd hu0) ?_⟩
        rw [upd_same, show plainS p q = ⟨.ev, (p.a + q.a) % gcdI p.s q.s, gcdI p.s q.s⟩ from by unfold plainS; rw [if_neg nk, if_neg nq]]
        rfl
end
end Wd
end
section
set_option Elab.async false
set_option linter.all false
set_option maxRecDepth 100000
set_option maxHeartbeats 2000000
set_option pp.maxSteps 900
/-! ### _least_sums -/
namespace Wd
open PySem PySem.Spec PyProof.Rows L2 Wt TL NumText
theorem rgc_up {a c n : Int} (h1 : 1 ≤ c) (h2 : c ≤ 1000) (h3 : 1 ≤ n) (h4 : n ≤ 1000) (h5 : -1000000000 ≤ a) (h6 : a ≤ 1000000000) : RgC a (a + n * c) c n.toNat := by
  have m1 : 1 ≤ n * c := by
    have := Int.mul_le_mul h3 h1 (by omega) (by omega)
    omega
  have m2 : n * c ≤ 1000000 := by
    have := Int.mul_le_mul h4 h2 (by omega) (by omega)
    omega
  have e : Builtin.Range.rangeSize a (a + n * c) c = n := by
    unfold Builtin.Range.rangeSize
    rw [if_pos (by omega), if_pos (by omega), show a + n * c - a - 1 = -1 + n * c from by omega, Int.add_mul_ediv_right _ _ (by omega)]
    have : (-1 : Int) / c = -1 := Int.ediv_eq_neg_one_of_neg_of_le (by omega) (by omega)
    omega
  refine ⟨by omega, by omega, ?_, by rw [e]; omega⟩
  unfold Builtin.Range.small
  rw [e]
  simp only [Builtin.Range.rangeFitsLong, Bool.and_eq_true, Bool.or_eq_true, decide_eq_true_eq, beq_iff_eq]
  rw [if_pos (by omega), Bool.and_eq_true, decide_eq_true_iff, decide_eq_true_iff]
  omega
theorem inV_none (L : List (Option Int)) : inV .non (L.map ovI) = decide (none ∈ L) := by
  unfold inV
  induction L with
  | nil => rfl
  | cons o r ih =>
    rw [List.map_cons, List.any_cons, ih]
    cases o with
    | none => simp [ovI, eqV]
    | some i => simp [ovI, eqV]
theorem all_some {L : List (Option Int)} (h : none ∉ L) : ∃ ns : List Int, L = ns.map some := by
  induction L with
  | nil => exact ⟨[], rfl⟩
  | cons o r ih =>
    obtain ⟨ns, e⟩ := ih fun z => h (List.mem_cons_of_mem _ z)
    cases o with
    | none => exact absurd List.mem_cons_self h
    | some i => exact ⟨i :: ns, by rw [e]; rfl⟩
def PrA (H : Hp) (v : V) (p : Int × Int) : Prop := ∃ a, v = .ref a ∧ H a = some (.tup [.int p.1, .int p.2])
def spLeastS : Sp := fun vs H Q _ => ∃ (l : Addr) (s : Int) (xs : List V) (prs : List (Int × Int)), vs = [.int s, .ref l] ∧ 1 ≤ s ∧ s ≤ 1000 ∧ H l = some (.lst xs) ∧ All2 (PrA H) xs prs ∧ prs.length ≤ 1000 ∧ (∀ p ∈ prs, 1 ≤ p.2 ∧ p.2 ≤ 1000 ∧ -1000000000 ≤ p.1 ∧ p.1 ≤ 1000000000) ∧
  ∀ u L H', Same H H' → H' u = some (.lst (L.map ovI)) → Lst s prs L → Q (.ref u) H'
section
variable {P : Program} {w : World} {K : PySem.W.Frag} {mg : Str → Option Value} {base : Heap} {f : Addr} {fd : FuncData}
theorem scLeast_sums : FnScope ["step", "pairs", "least", "bound", "start", "wide", "turns", "day", "rest", "_"] ["step", "pairs"] (defScope (top i__least_sums)) := ⟨rfl, rfl, rfl, by decide +kernel, rfl, by decide +kernel, by decide +kernel⟩
theorem ok_leastS (F : FnG K "_least_sums" i__least_sums f fd) (T : Tx K mg) (TG : TmG K mg) : FnOk P w K mg base CX0 1 f fd ["step", "pairs"] spLeastS := by
  refine F.ok scLeast_sums (fun vs H Q E h => ?_) (fun cdv A outer s H vs Q E hr h => ?_)
  · obtain ⟨l, s, xs, prs, rfl, _⟩ := h
    rfl
  · obtain ⟨l, s, xs, prs, rfl, hs1, hs2, lq, al, pl, hb, k⟩ := h
    have hu := hu_of hr
    refine ⟨_, PSs.nox (pss_cons (ps_setLc (i := 2) (own := [("_", 9)]) rfl scLeast_sums.nd rfl rfl (sw_true rfl rfl rfl (by decide +kernel)) (pi_range1 (by rfl) T.range (pa_cons (pv 0) pa_nil)) (blkOk_by (own := [("_", 9)]) (N := ["step", "pairs", "least", "bound", "start", "wide", "turns", "day", "rest", "_"]) (sc := defScope (top i__least_sums)) (by decide +kernel)) (fun _ _ _ _ _ => (pg_name (i := 9) scLeast_sums.nd rfl (Or.inl rfl))) (fun _ _ _ _ _ => pts_nil) (fun _ _ _ _ _ => pe_non))
        (pss_cons (ps_set (i := 3) scLeast_sums.nd rfl (Or.inl rfl) pe_non)
        (pss_cons (ps_for PassesOwn.never rfl (pi_list (pv 1)) (pg_tup rfl (pgs_cons (pg_name (i := 4) scLeast_sums.nd rfl (Or.inl rfl)) (pgs_cons (pg_name (i := 5) scLeast_sums.nd rfl (Or.inl rfl)) pgs_nil))) (pss_cons (ps_set (i := 6) scLeast_sums.nd rfl (Or.inl rfl) (pe_op op_fdivN (pv 0) (pe_callBfun cr_gcd (by rfl) TG.gcd (pa_cons (pv 0) (pa_cons (pv 5) pa_nil)))))
        (pss_cons (ps_for PassesOwn.never rfl (pi_range3 (by rfl) T.range (pa_cons (pv 4) (pa_cons (pe_op op_add (pv 4) (pe_op op_mul (pv 6) (pv 5))) (pa_cons (pv 5) pa_nil)))) (pg_name (i := 7) scLeast_sums.nd rfl (Or.inl rfl)) (pss_cons (ps_if (PW.pt (pw_and (pt_cmpR op_notN (pv 3) pe_non (nomark _)) (pw_and1 (pt_cmpR op_ge (pv 7) (pv 3) (nomark _))))) (pss_one ps_break) pss_nil)
        (pss_cons (ps_set (i := 8) scLeast_sums.nd rfl (Or.inl rfl) (pe_op op_mod (pv 7) (pv 0)))
        (pss_one (ps_if (PW.pt (pw_or (pt_cmpR op_isN (pe_ix ix_list (pv 2) (pv 8) (fun _ _ => rfl)) pe_non (nomark _)) (pw_or1 (pt_cmpR op_lt (pv 7) (pe_ix ix_list (pv 2) (pv 8) (fun _ _ => rfl)) (nomark _))))) (pss_one (ps_asg (pv 7) (pg_sub (pv 2) (pv 8) set_list))) pss_nil)))))
        (pss_one (ps_if (pt_cmpR op_notIn_seq pe_non (pv 2) (by rfl)) (pss_one (ps_set (i := 3) scLeast_sums.nd rfl (Or.inl rfl) (pe_callB (call_maxL rfl hu) (by rfl) T.max (by decide +kernel) (pa_cons (pv 2) pa_nil)))) pss_nil)))))
        (pss_one (ps_ret (pv 2)))))), ?_⟩
    refine ⟨_, rfl, s, rfl, by omega, by omega, fun u hu0 => lc_range (lo := 0) (n := s.toNat) (fun i H' => Same H H' ∧ H' u = some (.lst (List.replicate i .non))) ⟨same_upd hu0, upd_same⟩ (fun i H1 hi z => ?_) ?_⟩
    · refine ⟨rfl, iteT (B := Same H H1 ∧ H1 u = some (.lst (List.replicate (i + 1) .non))) ⟨_, z.2, by rw [List.length_replicate, sizeLine_eq]; omega, fun c o zz => ?_, ?_⟩⟩
      · rw [upd_ne (ne_of_none zz hu0)]
        exact z.1 _ _ zz
      · rw [upd_same, List.replicate_succ']
    rintro H1 ⟨s1, uq⟩
    dsimp only [tNext, gName]
    have emp : (List.replicate s.toNat (none : Option Int)).map ovI = List.replicate s.toNat .non := List.map_replicate
    refine ⟨_, rfl, l, rfl, ⟨_, SqL.of (s1 _ _ lq)⟩, for_list (xs := xs) (fun i σ H' => ∃ (bo : Option Int) (L : List (Option Int)) (x4 x5 x6 x7 x8 : Option V), σ = [some (.int s), some (.ref l), some (.ref u), some (ovI bo), x4, x5, x6, x7, x8, none] ∧ Same H H' ∧ H' u = some (.lst (L.map ovI)) ∧ Lst s (prs.take i) L ∧ ∀ m, bo = some m → AllLe L m)
      ⟨none, List.replicate s.toNat none, _, _, _, _, _, rfl, s1, by rw [emp]; exact uq, Lst.nil hs1, fun m e => by cases e⟩ (fun i σ H' _ z => ?_) ?_ ?_⟩
    · obtain ⟨_, _, _, _, _, _, _, _, z, _⟩ := z
      exact SqL.of (z _ _ lq)
    · rintro i v σ H2 hvx ⟨bo, L, x4, x5, x6, x7, x8, rfl, s2, uq2, hL, hB⟩
      obtain ⟨pr, hp, pa, rfl, pq⟩ := al.at hvx
      have hpm := List.mem_of_getElem? hp
      have htk : prs.take (i + 1) = prs.take i ++ [pr] := by rw [List.take_add_one, hp]; rfl
      obtain ⟨b1, b2, b3, b4⟩ := hb pr hpm
      refine ⟨pa, _, rfl, SqT.of (s2 _ _ pq), rfl, _, _, rfl, _, _, rfl, rfl, ?_⟩
      have g1 := gcdI_pos (b := pr.2) hs1
      have g2 := gcdI_le (b := pr.2) hs1
      refine ⟨_, rfl, _, rfl, _, rfl, s, pr.2, rfl, s, gcdI s pr.2, rfl, rfl, ⟨by omega, by omega⟩, ?_⟩
      have en : s.fdiv (gcdI s pr.2) = s / gcdI s pr.2 := Int.fdiv_eq_ediv_of_nonneg _ (by omega)
      dsimp only [gName]
      rw [en]
      obtain ⟨q, hq⟩ := gcdI_dvd_left s pr.2
      have eq : s / gcdI s pr.2 = q := Int.ediv_eq_of_eq_mul_right (by omega) hq
      have q1 : 1 ≤ s / gcdI s pr.2 := by
        rw [eq]
        by_cases hh : 1 ≤ q
        · exact hh
        · have := (mul_npos_iff g1 (t := q)).mpr (by omega)
          omega
      have q2 : s / gcdI s pr.2 ≤ 1000 := by
        have := Int.ediv_le_self (gcdI s pr.2) (show 0 ≤ s by omega)
        omega
      obtain ⟨n, hn⟩ : ∃ n, n = s / gcdI s pr.2 := ⟨_, rfl⟩
      rw [← hn] at q1 q2 ⊢
      refine seq_by (fun σ' H' => ∃ (L' : List (Option Int)) (x7 x8 : Option V), σ' = [some (.int s), some (.ref l), some (.ref u), some (ovI bo), some (.int pr.1), some (.int pr.2), some (.int n), x7, x8, none] ∧ Same H H' ∧ H' u = some (.lst (L'.map ovI)) ∧ Lst s (prs.take (i + 1)) L' ∧ ∀ m, bo = some m → AllLe L' m) (fun Nx hN => ?_) ?_
      · refine ⟨_, rfl, _, rfl, _, rfl, _, rfl, _, _, rfl, rfl, .inl ⟨by omega, by omega⟩, _, _, rfl, rfl, _, rfl, pr.1, pr.1 + n * pr.2, pr.2, n.toNat, rfl, rgc_up b1 b2 q1 q2 b3 b4, ?_⟩
        refine for_rangeC (lo := pr.1) (c := pr.2) (n := n.toNat) (fun t σ H' => ∃ (L' : List (Option Int)) (x7 x8 : Option V), σ = [some (.int s), some (.ref l), some (.ref u), some (ovI bo), some (.int pr.1), some (.int pr.2), some (.int n), x7, x8, none] ∧ Same H H' ∧ H' u = some (.lst (L'.map ovI)) ∧ LsI s (prs.take i) pr t L' ∧ ∀ m, bo = some m → AllLe L' m)
          ⟨L, _, _, rfl, s2, uq2, hL.start pr, hB⟩ (fun t σ H3 ht z => ?_) (fun σ H3 z => ?_)
        · obtain ⟨L', y7, y8, rfl, s3, uq3, hL', hB'⟩ := z
          dsimp only [gName, tNext]
          refine seq_by (fun σ' H' => σ' = [some (.int s), some (.ref l), some (.ref u), some (ovI bo), some (.int pr.1), some (.int pr.2), some (.int n), some (.int (pr.1 + (t : Nat) * pr.2)), y8, none] ∧ H3 = H') (fun Nx2 hN2 => ?_) ?_
          · refine ⟨_, rfl, rfl, _, rfl, ?_⟩
            cases bo with
            | none => exact ifN rfl (hN2 _ _ ⟨rfl, rfl⟩)
            | some m =>
              refine ifB rfl ⟨_, rfl, _, rfl, _, _, rfl, rfl, _, rfl, ifQ (fun e => ?_) (fun e => hN2 _ _ ⟨rfl, rfl⟩)⟩
              refine hN _ _ ⟨L', _, _, rfl, s3, uq3, ?_, hB'⟩
              rw [htk]
              exact hL'.done hs1 b1 (.inr ⟨m, hB' m rfl, of_decide_eq_true e⟩)
          · rintro _ _ ⟨rfl, rfl⟩
            obtain ⟨r1, r2⟩ := rest_nat (s := s) (x := pr.1 + (t : Nat) * pr.2) hs1
            have hl' : ((pr.1 + (t : Nat) * pr.2) % s).toNat < L'.length := by rw [hL'.len]; exact r2
            obtain ⟨o, ho⟩ : ∃ o, L'[((pr.1 + (t : Nat) * pr.2) % s).toNat]? = some o := ⟨_, List.getElem?_eq_getElem hl'⟩
            have at_ : atI (L'.map ovI) ((pr.1 + (t : Nat) * pr.2) % s) = some (ovI o) := by
              rw [← r1]
              exact atI_nat (by rw [List.getElem?_map, ho]; rfl)
            have ix_ : ixN (L'.map ovI).length ((pr.1 + (t : Nat) * pr.2) % s) = some ((pr.1 + (t : Nat) * pr.2) % s).toNat := by
              have z := Evl.ixN_nat (n := (L'.map ovI).length) (j := ((pr.1 + (t : Nat) * pr.2) % s).toNat) (by rw [List.length_map]; exact hl')
              rw [r1] at z
              exact z
            have put : (∀ v, L'[((pr.1 + (t : Nat) * pr.2) % s).toNat]? = some (some v) → pr.1 + (t : Nat) * pr.2 ≤ v) → ∃ (L'' : List (Option Int)) (x7 x8 : Option V), [some (V.int s), some (.ref l), some (.ref u), some (ovI bo), some (.int pr.1), some (.int pr.2), some (.int n), some (.int (pr.1 + (t : Nat) * pr.2)), some (.int ((pr.1 + (t : Nat) * pr.2) % s)), none] = [some (V.int s), some (.ref l), some (.ref u), some (ovI bo), some (.int pr.1), some (.int pr.2), some (.int n), x7, x8, none] ∧
                Same H (upd H3 u (.lst ((L'.map ovI).set ((pr.1 + (t : Nat) * pr.2) % s).toNat (.int (pr.1 + (t : Nat) * pr.2))))) ∧ (upd H3 u (.lst ((L'.map ovI).set ((pr.1 + (t : Nat) * pr.2) % s).toNat (.int (pr.1 + (t : Nat) * pr.2))))) u = some (.lst (L''.map ovI)) ∧ LsI s (prs.take i) pr ((t + 1 : Nat) : Int) L'' ∧ ∀ m, bo = some m → AllLe L'' m := fun hlow => by
              refine ⟨L'.set ((pr.1 + (t : Nat) * pr.2) % s).toNat (some (pr.1 + (t : Nat) * pr.2)), _, _, rfl, fun c o z => ?_, ?_, ?_, fun m e => (hB' m e).put hlow⟩
              · rw [upd_ne (ne_of_none z hu0)]
                exact s3 _ _ z
              · rw [upd_same, List.map_set]
                rfl
              · exact hL'.put hs1 (by omega) hlow
            refine ⟨_, rfl, _, rfl, _, _, rfl, rfl, by omega, ?_⟩
            dsimp only [gName]
            refine ⟨_, rfl, _, rfl, u, _, _, _, rfl, rfl, SqL.of uq3, at_, rfl, _, rfl, ?_⟩
            cases o with
            | none =>
              refine ifB rfl ?_
              exact ⟨_, rfl, _, rfl, _, rfl, u, _, _, _, rfl, rfl, uq3, ix_, put fun v e => by rw [ho] at e; cases e⟩
            | some v =>
              refine ifN rfl ⟨_, rfl, _, rfl, _, rfl, u, _, _, _, rfl, rfl, SqL.of uq3, at_, _, _, rfl, rfl, _, rfl, ifQ (fun e => ?_) (fun e => ?_)⟩
              · have e := of_decide_eq_true e
                exact ⟨_, rfl, _, rfl, _, rfl, u, _, _, _, rfl, rfl, uq3, ix_, put fun v' e' => by rw [ho] at e'; cases e'; omega⟩
              · have e := of_decide_eq_false e
                exact ⟨L', _, _, rfl, s3, uq3, hL'.keep v ho (by omega), hB'⟩
        · obtain ⟨L', y7, y8, rfl, s3, uq3, hL', hB'⟩ := z
          refine hN _ _ ⟨L', _, _, rfl, s3, uq3, ?_, hB'⟩
          rw [htk]
          exact hL'.done hs1 b1 (.inl (by rw [← hn]; omega))
      · rintro _ H3 ⟨L', y7, y8, rfl, s3, uq3, hL', hB'⟩
        refine ⟨_, rfl, u, _, rfl, .inl (SqL.of uq3), rfl, ?_, _, rfl, ?_⟩
        · refine List.all_eq_true.mpr fun x hx => ?_
          obtain ⟨o, _, rfl⟩ := List.mem_map.mp hx
          cases o <;> rfl
        rw [if_pos rfl, inV_none]
        by_cases hn0 : none ∈ L'
        · rw [decide_eq_true hn0]
          exact ifN rfl ⟨bo, L', _, _, _, _, _, rfl, s3, uq3, hL', hB'⟩
        · rw [decide_eq_false hn0]
          obtain ⟨ns, rfl⟩ := all_some hn0
          have em : (ns.map some).map ovI = ns.map V.int := by rw [List.map_map]; rfl
          have nn : ns ≠ [] := by
            rintro rfl
            have := hL'.len
            simp at this
            omega
          refine ifB rfl ⟨_, rfl, u, ns, rfl, ?_, nn, ?_⟩
          · rw [← em]
            exact SqL.of uq3
          · refine ⟨some (maxF 0 ns), ns.map some, _, _, _, _, _, rfl, s3, uq3, hL', fun m e r hr => ?_⟩
            cases e
            rw [List.length_map] at hr
            exact ⟨ns[r], by rw [List.getElem?_map, List.getElem?_eq_getElem hr]; rfl, (maxF_mem nn 0).2 _ (List.getElem_mem hr)⟩
    · rintro σ H2 ⟨bo, L, x4, x5, x6, x7, x8, rfl, s2, uq2, hL, hB⟩
      rw [List.take_of_length_le (by rw [al.len]; exact Nat.le_refl _)] at hL
      exact ⟨_, rfl, k u L H2 s2 uq2 hL⟩
end
end Wd
end
section
set_option Elab.async false
set_option linter.all false
set_option maxRecDepth 100000
set_option maxHeartbeats 2000000
set_option pp.maxSteps 900
/-! ### pairs of upward pieces (pure) -/
namespace Wd
open PySem PySem.Spec PyProof.Rows L2 Wt TL NumText
theorem pairsU_snoc (ps qs : List Pc) (m : Pc) : pairsU (ps ++ [m]) qs = pairsU ps qs ++ (if m.k = .up then (qs.filter fun p => decide (p.k = .up)).map fun y => pairU m y else []) := by
  unfold pairsU
  rw [List.filter_append, List.map_append, List.flatten_append]
  congr 1
  by_cases h : m.k = .up
  · rw [if_pos h, List.filter_cons, if_pos (decide_eq_true h)]
    simp
  · rw [if_neg h, List.filter_cons, if_neg (by rw [decide_eq_false h]; exact Bool.false_ne_true)]
    simp
def rowU (m : Pc) (qs : List Pc) : List (Int × Int × Int) := (qs.filter fun p => decide (p.k = .up)).map fun y => pairU m y
theorem rowU_snoc (m : Pc) (qs : List Pc) (y : Pc) : rowU m (qs ++ [y]) = rowU m qs ++ (if y.k = .up then [pairU m y] else []) := by
  unfold rowU
  rw [List.filter_append, List.map_append]
  congr 1
  by_cases h : y.k = .up
  · rw [if_pos h, List.filter_cons, if_pos (decide_eq_true h)]
    rfl
  · rw [if_neg h, List.filter_cons, if_neg (by rw [decide_eq_false h]; exact Bool.false_ne_true)]
    rfl
theorem rowU_len (m : Pc) (qs : List Pc) : (rowU m qs).length ≤ qs.length := by
  unfold rowU
  rw [List.length_map]
  exact List.length_filter_le _ _
theorem pairsU_len (qs : List Pc) : ∀ ps : List Pc, (pairsU ps qs).length ≤ ps.length * qs.length := by
  intro ps
  induction ps with
  | nil => exact Nat.zero_le _
  | cons m r ih =>
    unfold pairsU at ih ⊢
    rw [List.filter_cons, List.length_cons, Nat.add_mul]
    by_cases h : m.k = .up
    · rw [if_pos (decide_eq_true h), List.map_cons, List.flatten_cons, List.length_append]
      have := rowU_len m qs
      unfold rowU at this
      omega
    · rw [if_neg (by rw [decide_eq_false h]; exact Bool.false_ne_true)]
      omega
/-- a triple in the heap -/
def TrA (H : Hp) (v : V) (t : Int × Int × Int) : Prop := ∃ a, v = .ref a ∧ H a = some (.tup [.int t.1, .int t.2.1, .int t.2.2])
theorem TrA.mv {H H' : Hp} {xs : List V} {T : List (Int × Int × Int)} (h : All2 (TrA H) xs T) (m : ∀ c ys, H c = some (.tup ys) → H' c = some (.tup ys)) : All2 (TrA H') xs T := All2.mono (fun _ _ ⟨a, e, z⟩ => ⟨a, e, m _ _ z⟩) h
theorem all2_perm {α β : Type} {R : α → β → Prop} {xs ys : List α} (p : ys.Perm xs) : ∀ {T : List β}, All2 R xs T → ∃ T', All2 R ys T' ∧ T'.Perm T := by
  induction p with
  | nil => intro T h; exact ⟨T, h, .refl _⟩
  | cons x _ ih =>
    intro T h
    cases h with
    | cons r t =>
      obtain ⟨T', h', p'⟩ := ih t
      exact ⟨_, .cons r h', p'.cons _⟩
  | swap x y l =>
    intro T h
    cases h with
    | cons r1 t =>
      cases t with
      | cons r2 t => exact ⟨_, .cons r2 (.cons r1 t), .swap _ _ _⟩
  | trans _ _ ih1 ih2 =>
    intro T h
    obtain ⟨T1, h1, p1⟩ := ih2 h
    obtain ⟨T2, h2, p2⟩ := ih1 h1
    exact ⟨T2, h2, p2.trans p1⟩
theorem prsOf_snoc (T : List (Int × Int × Int)) (t : Int × Int × Int) (s : Int) : prsOf (T ++ [t]) s = prsOf T s ++ (if t.1 = s then [t.2] else []) := by
  unfold prsOf
  rw [List.filter_append, List.map_append]
  congr 1
  by_cases h : t.1 = s
  · rw [if_pos h, List.filter_cons, if_pos (decide_eq_true h)]
    rfl
  · rw [if_neg h, List.filter_cons, if_neg (by rw [decide_eq_false h]; exact Bool.false_ne_true)]
    rfl
theorem prsOf_len (T : List (Int × Int × Int)) (s : Int) : (prsOf T s).length ≤ T.length := by
  unfold prsOf
  rw [List.length_map]
  exact List.length_filter_le _ _
theorem prsOf_mem {T : List (Int × Int × Int)} {s : Int} {p : Int × Int} (h : p ∈ prsOf T s) : (s, p.1, p.2) ∈ T := by
  unfold prsOf at h
  obtain ⟨t, ht, rfl⟩ := List.mem_map.mp h
  rw [List.mem_filter, decide_eq_true_iff] at ht
  rw [← ht.2]
  exact ht.1
theorem upsOf_snoc (s : Int) (L : List (Option Int)) (o : Option Int) : upsOf s (L ++ [o]) = upsOf s L ++ (match o with | some v => [⟨.up, v, s⟩] | none => []) := by
  unfold upsOf
  rw [List.filterMap_append, List.map_append]
  cases o <;> rfl
theorem upsOf_len (s : Int) (L : List (Option Int)) : (upsOf s L).length ≤ L.length := by
  unfold upsOf
  rw [List.length_map]
  exact List.length_filterMap_le _ _
theorem flat_len {ss : List Int} {Ls : Int → List (Option Int)} (h : ∀ s ∈ ss, (Ls s).length = s.toNat) : ((ss.map fun s => upsOf s (Ls s)).flatten).length ≤ (ss.map Int.toNat).sum := by
  induction ss with
  | nil => simp
  | cons s r ih =>
    have h1 := upsOf_len s (Ls s)
    rw [h s List.mem_cons_self] at h1
    have h2 := ih fun x hx => h x (List.mem_cons_of_mem _ hx)
    rw [List.map_cons, List.flatten_cons, List.length_append, List.map_cons, List.sum_cons]
    omega
end Wd
end
section
set_option Elab.async false
set_option linter.all false
set_option maxRecDepth 100000
set_option maxHeartbeats 2000000
set_option pp.maxSteps 900
/-! sorted(xs), xs a list of tuples of whole numbers of any sign: some order of the same tuples. -/
namespace Wd
open PySem PySem.Spec PyProof.Rows L2
theorem itemsI {us : List Value} {ks : List Int} (h : IntsAre us ks) : ∀ i, tupItems (fun _ => false) i us = some (ks.map Sum.inl) := by
  induction h with
  | nil => intro i; rfl
  | cons k t _ ih =>
    intro i
    unfold tupItems
    rw [if_neg Bool.false_ne_true, ih]
    rfl
theorem tupOfI {h : Heap} {u : Value} {ks : List Int} (t : TS.TupInts h u ks) (ne : ks ≠ []) : (∃ z, TupOf h (fun _ => false) u z) ∧ ∃ l, G.tupKeyC h (fun _ => false) u = some l := by
  obtain ⟨a, its, rfl, ⟨o, ho, hc, n, hd⟩, ia⟩ := t
  refine ⟨?_, _, G.tupKeyC_of ho hc hd (itemsI ia 0)⟩
  generalize hl : its.toList = l at ia
  cases ia with
  | nil => exact absurd rfl ne
  | cons k t r =>
    refine ⟨.int k t, a, o, its, n, rfl, ho, hc, hd, ?_, fun _ => ⟨k, t, rfl⟩, fun z => by cases z⟩
    have g := congrArg (fun l : List Value => l[0]?) hl
    simpa using g
def rSortI (K : PySem.W.Frag) : List V → Hp → VK → Prop := fun vs H Q => ∃ (a : Addr) (xs : List V), vs = [V.ref a] ∧ SqL K H a xs ∧ (∀ x ∈ xs, ∃ ks, TupI K H x ks ∧ ks ≠ []) ∧ ∀ (ys : List V) (p : Addr), ys.Perm xs → H p = none → Q (.ref p) (upd H p (.lst ys))
theorem cr_sortI {X : Cx} : CallR X (.builtin "sorted") (rSortI X.K) := by
  intro pins s σ H vs us Q I r h
  obtain ⟨a, xs, rfl, hs, hx, q⟩ := h
  obtain ⟨its, rv, hl, hz⟩ := I.list hs
  rw [Vals.ref1 r]
  obtain ⟨e1, e2⟩ := bkV_refs rv fun x m => (hx x m).elim fun ks z => z.1.elim fun t y => ⟨t, y.1⟩
  have tp : ∀ v ∈ its, ∃ ks, TS.TupInts s.heap v ks ∧ ks ≠ [] := fun v hv => by
    obtain ⟨t, rfl⟩ := e2 v hv
    obtain ⟨ks, ⟨t', e, ht⟩, ne⟩ := hx (.ref t) (by rw [e1]; exact List.mem_map.mpr ⟨_, hv, rfl⟩)
    cases e
    exact ⟨ks, tupI_raw I ht, ne⟩
  have fs : ∀ l : List Value, (∀ v ∈ l, ∃ ks, TS.TupInts s.heap v ks ∧ ks ≠ []) → ∃ fs, TupsOf s.heap (fun _ => false) l fs := fun l => by
    induction l with
    | nil => exact fun _ => ⟨[], .nil⟩
    | cons v l ih =>
      intro hv
      obtain ⟨ks, t, ne⟩ := hv v List.mem_cons_self
      obtain ⟨z, hz⟩ := (tupOfI t ne).1
      obtain ⟨fs, hf⟩ := ih fun y hy => hv y (List.mem_cons_of_mem _ hy)
      exact ⟨z :: fs, .cons hz hf⟩
  obtain ⟨f0, hf⟩ := fs its tp
  refine G.sorted_tups hl.isList hf (fun v hv => ?_) (by rw [← rv.length]; exact hz) fun st hp _ _ => ?_
  · obtain ⟨ks, t, ne⟩ := tp v hv
    exact (tupOfI t ne).2
  · have h1 : ((arrOf st).map (·.2)).toList.Perm its := by
      have z := (Array.perm_iff_toList_perm.mp hp).map Prod.snd
      rw [pairsOf_toList, List.map_snd_zip (Nat.le_refl _)] at z
      simpa using z
    obtain ⟨ep, he⟩ := PyProof.Rows.sortedAll_at s.heap its ((arrOf st).map (·.2))
    have h3 : ∀ u ∈ ((arrOf st).map (·.2)).toList, ∃ a, u = Value.ref a := fun u hu => e2 u (h1.mem_iff.mp hu)
    have h4 : (((arrOf st).map (·.2)).toList.map bkV).Perm xs := by
      rw [e1]
      exact h1.map bkV
    refine ⟨.ref _, upd H (s.heap.objs.size + 1) (.lst (((arrOf st).map (·.2)).toList.map bkV)), I.laid (t' := s.toks) (fun _ _ z => PyProof.Rows.sortedAll_old z) (Nat.le_succ _) ⟨?_, _, ep, bkV_vals h3, he⟩, rfl, q _ _ h4 (I.hok.fresh (Nat.le_succ _))⟩
    rw [h4.length_eq]
    exact hz
end Wd
end
section
set_option Elab.async false
set_option linter.all false
set_option maxRecDepth 100000
set_option maxHeartbeats 2000000
set_option pp.maxSteps 900
/-! ### [e for a in x for b in y]: the walks -/
namespace Wd
open PySem PySem.Spec PyProof.Rows L2
section
variable {J : It} {n : Nat} {G : Hp → Prop} {Y : Nat → Hp → V → Hp → Prop}
theorem lc2_out (k : Walk J n G Y) {Qd : Hp → Prop} {body : V → Hp → (Hp → Prop) → Prop} {H0 : Hp} (Pv : Nat → Hp → Prop) (h0 : Pv 0 H0) (hG : ∀ i H, i ≤ n → Pv i H → G H)
    (hs : ∀ i x H H', i < n → Pv i H → Y i H x H' → body x H' (Pv (i + 1))) (hd : ∀ H, Pv n H → Qd H) :
    ∃ W : Nat → Nat → Hp → Prop, (∃ m, W 0 m H0) ∧ ∀ i m H, W i m H →
      (J.stop i H ∧ Qd H) ∨ (J.go i H ∧ ∃ Nx : Hp → Prop, (∀ H', Nx H' → ∃ m', m' < m ∧ W (i + 1) m' H') ∧ ∀ x H', J.yld i H x H' → body x H' Nx) := by
  refine ⟨fun i m H => m = n - i ∧ i ≤ n ∧ Pv i H, ⟨n, by simp, Nat.zero_le _, h0⟩, ?_⟩
  rintro i m H ⟨rfl, hi, p⟩
  have q := hG i H hi p
  by_cases hlt : i < n
  · exact .inr ⟨k.goes i H hlt q, Pv (i + 1), fun H' p' => ⟨n - (i + 1), by omega, rfl, hlt, p'⟩, fun x H' y => hs i x H H' hlt p (k.yields i H x H' hlt q y)⟩
  · have e : i = n := by omega
    subst e
    exact .inl ⟨k.stops H q, hd H p⟩
end
end Wd
end
section
set_option Elab.async false
set_option linter.all false
set_option maxRecDepth 100000
set_option maxHeartbeats 1000000
set_option pp.maxSteps 600
/-! range(lo, hi) whatever the bounds -/
namespace Wd
open PySem PySem.Spec PyProof.Rows L2
theorem turn_rangeB {P : Program} {w : World} {K : PySem.W.Frag} {tg : Expr} (it : Addr) (lo : Int) (n : Nat) : Turn P w K tg (Itr lo n) [it] it (fun i h => IsLongIter h it (lo + (i : Nat) * 1) ((n : Int) - (i : Nat)) 1) where
  mem := List.mem_cons_self
  obj := fun i h st b hb => by
    rw [List.mem_singleton.mp hb]
    exact ⟨_, st, fun v z => nomatch (show Data.fields _ = Data.cell v from z)⟩
  keep := fun i h h' st k => k it List.mem_cons_self _ st
  item := by
    rintro X rfl rfl rfl hc i pins s σ H E I hf st hg
    obtain ⟨f0, f1, f2, f3, f4, f5⟩ := hf it List.mem_cons_self
    refine (Walks.longrange (prog := X.prog) (w := X.w) (I.ok.hd hc) it lo 1 n).item i s _ _ hg st fun v h' tk hv st' kk => ?_
    obtain ⟨t, rfl⟩ := hv
    have I1 : Inv X pins σ H { s with heap := h', toks := tk } := I.turned (fun b o hb e => kk b o (by simpa using hb) e) f0 f1 f3 f4 f5
    exact ⟨_, rfl, go_of (s := { s with heap := h', toks := tk }) (n := "longrange_iterator") st' rfl rfl (by decide) ⟨.int (lo + i), H, I1, ⟨t, by rw [Int.mul_one]⟩, ⟨rfl, rfl⟩, st', fun b hb => (hf b hb).1⟩⟩
  done := by
    rintro X rfl rfl rfl hc i pins s σ H E I hf st hg
    obtain ⟨f0, f1, f2, f3, f4, f5⟩ := hf it List.mem_cons_self
    exact wpAny_pyNext_long_end (I.ok.hd hc) st (by have : n ≤ i := hg; omega) fun h' eb => ⟨rfl, I.turned (t' := s.toks) (fun b o hb e => eb b o hb e) f0 f1 f3 f4 f5⟩
  self := fun _ _ _ _ _ st h => wpAny_pyIter_longiter st h
def iRngB (ta : TA) : TI := fun σ H R => ta σ H fun vs H1 => ∃ i j : Int, vs = [.int i, .int j] ∧ R (Itr i (j - i).toNat) H1
theorem range_itB {X : Cx} {pins : List (Addr × Obj)} {σ : L2.St} {H : Hp} {s : Shared} {tg : Expr} {R : It → Hp → Prop} {E : Value → Shared → Prop} {lo hi : Int} {t u v : Tok} {tk : Nat} (I : Inv X pins σ H s) (q : R (Itr lo (hi - lo).toNat) H) :
    wpAny (model X.prog X.w) X.A (pyIter (.ref s.heap.objs.size)) (PIE X pins σ tg R) E { s with heap := s.heap.push { cls := .type "range", data := .fields #[.int lo t, .int hi u, .int 1 v] }, toks := tk } := by
  have I1 : Inv X pins σ H { s with heap := s.heap.push { cls := .type "range", data := .fields #[.int lo t, .int hi u, .int 1 v] }, toks := tk } := I.kept fun b o e => Heap.get?_push_of_some _ e
  generalize hr : ({ cls := .type "range", data := .fields #[.int lo t, .int hi u, .int 1 v] } : Obj) = ro at I1 ⊢
  have isr : IsRange (s.heap.push ro) s.heap.objs.size lo hi 1 t u v := by
    rw [← hr]
    exact IsRange.new ..
  have e1 : lo + ((0 : Nat) : Int) * 1 = lo := by simp
  have e2 : (((hi - lo).toNat : Nat) : Int) - ((0 : Nat) : Int) = Builtin.Range.rangeSize lo hi 1 := by rw [rangeSize_one]; split <;> omega
  have one : ∀ b ∈ [(s.heap.push ro).objs.size], FpOk X pins H b := fun b hb => by
    rw [List.mem_singleton.mp hb]
    exact I1.fpOk (Nat.le_refl _) (I1.hok.fresh (Nat.le_refl _))
  by_cases hs : Builtin.Range.small lo hi 1 = true
  · refine wpAny_pyIter_range isr hs ?_
    refine ⟨(s.heap.push ro).objs.size, [(s.heap.push ro).objs.size], _, _, H, rfl, I1.kept (t' := tk) fun b o e => Heap.get?_push_of_some _ e, turn_range _ lo (hi - lo).toNat, ?_, one, q⟩
    show IsRangeIter _ _ (lo + ((0 : Nat) : Int) * 1) ((((hi - lo).toNat : Nat) : Int) - ((0 : Nat) : Int)) 1
    rw [e1, e2]
    exact Heap.get?_push_size _ rfl
  · refine wpAny_pyIter_longrange isr (by simpa using hs) ?_
    refine ⟨(s.heap.push ro).objs.size, [(s.heap.push ro).objs.size], _, _, H, rfl, I1.kept (t' := tk) fun b o e => Heap.get?_push_of_some _ e, turn_rangeB _ lo (hi - lo).toNat, ?_, one, q⟩
    show IsLongIter _ _ (lo + ((0 : Nat) : Int) * 1) ((((hi - lo).toNat : Nat) : Int) - ((0 : Nat) : Int)) 1
    rw [e1, e2]
    exact Heap.get?_push_size _ rfl
theorem pi_rangeB {X : Cx} {tg : Expr} {a b : Expr} {ta : TA} {p pos : Pos} (hg : Gl X "range") (hm : X.mg "range" = none) (ha : PA X [a, b] ta) (hs : starEach [a, b] X.env = [(false, eval a X.env), (false, eval b X.env)] := by rfl) (hs2 : starEach [b] X.env = [(false, eval b X.env)] := by rfl) :
    PI X tg (.Call (.Name "range" p) [a, b] [] pos) (iRngB ta) := by
  refine ⟨fun pins s σ H R I h => ?_⟩
  refine Call_ (ld_blt I hg hm boot_range (PyProof.Rows.callWith_type1 (thn (ha.run pos pins s σ H _ I h) fun us s1 ⟨vs, H1, I1, r1, q1⟩ => ?_) (by rw [hs, hs2]) (by rw [hs2]; rfl)))
  obtain ⟨i, j, e, q⟩ := q1
  subst e
  obtain ⟨x, y, rfl, r2, r3⟩ := vals2 r1
  obtain ⟨t, rfl⟩ := (show ∃ t, x = Value.int i t from r2)
  obtain ⟨u, rfl⟩ := (show ∃ t, y = Value.int j t from r3)
  exact call_range_2 (range_itB I1 q)
end Wd
end
section
set_option Elab.async false
set_option linter.all false
set_option maxRecDepth 100000
set_option maxHeartbeats 2000000
set_option pp.maxSteps 900
/-! ### the law's pieces -/
namespace Wd
open PySem PySem.Spec PyProof.Rows L2 Wt TL NumText
theorem tyL {K : PySem.W.Frag} {H : Hp} {p : Addr} {xs : List V} (h : H p = some (.lst xs)) : tyV K "list" (.ref p) H := .inl ⟨rfl, xs, SqL.of h⟩
/-- a piece as the law draws it -/
def PcD (p : Pc) : Prop := -30 ≤ p.a ∧ p.a ≤ 30 ∧ (p.k ≠ .one → 1 ≤ p.s ∧ p.s ≤ 9)
theorem pcD_mk {k : Kd} {a s : Int} (h1 : -30 ≤ a) (h2 : a ≤ 30) (h3 : k ≠ .one → 1 ≤ s ∧ s ≤ 9) : PcD ⟨k, a, s⟩ := ⟨h1, h2, h3⟩
theorem PcD.good {p : Pc} (h : PcD p) : p.good := fun n => (h.2.2 n).1
theorem PcsA.but {d l : Addr} {a : Int} {H H' : Hp} {xs : List V} {ps : List Pc} (h : PcsA H xs ps) (p : Pen H d l a) (b : But d H H') : PcsA H' xs ps := All2.mono (fun _ _ ⟨t, e, z⟩ => ⟨t, e, keepT p b z⟩) h
def spLPieces : Sp := fun vs H Q _ => ∃ (d l : Addr) (a n : Int), vs = [.ref d, .int n] ∧ Pen H d l a ∧ a ≤ 90000 ∧ 0 ≤ n ∧ n ≤ 10 ∧
  ∀ (r : Addr) (xs : List V) (ps : List Pc), ps.length = n.toNat → (∀ p ∈ ps, PcD p) → Drawn d l a 30 H fun _ H' => H' r = some (.lst xs) → PcsA H' xs ps → Q (.ref r) H'
def spLInP : Sp := fun vs H Q _ => ∃ (t : Addr) (p : Pc) (x : Int), vs = [.ref t, .int x] ∧ H t = some (.tup p.vals) ∧ p.good ∧ ∀ H', Same H H' → Q (.bl (inP p x)) H'
def spLInPs : Sp := fun vs H Q _ => ∃ (r : Addr) (xs : List V) (ps : List Pc) (x : Int), vs = [.ref r, .int x] ∧ H r = some (.lst xs) ∧ PcsA H xs ps ∧ (∀ p ∈ ps, p.good) ∧ ps.length ≤ 1000 ∧ ∀ H', Same H H' → Q (.bl (inPs ps x)) H'
section
variable {P : Program} {w : World} {K : PySem.W.Frag} {mg : Str → Option Value} {base : Heap} {f : Addr} {fd : FuncData}
theorem scLPieces : FnScope ["_law_pen_here", "_law_many", "_law_found", "_law_k", "_law_kind", "_law_spot"] ["_law_pen_here", "_law_many"] (defScope (top i__law_pieces)) := ⟨rfl, rfl, rfl, by decide +kernel, rfl, by decide +kernel, by decide +kernel⟩
theorem ok_lpieces (F : FnG K "_law_pieces" i__law_pieces f fd) (T : Tx K mg) (D : DDraw P w K mg base) : FnOk P w K mg base CX0 3 f fd ["_law_pen_here", "_law_many"] spLPieces := by
  refine F.ok scLPieces (fun vs H Q E h => ?_) (fun cdv A outer s H vs Q E hr h => ?_)
  · obtain ⟨d, l, a, n, rfl, _⟩ := h
    rfl
  · obtain ⟨d, l, a, n, rfl, pen, ha, hn, hn10, k⟩ := h
    refine ⟨_, PSs.nox (pss_cons (ps_set (i := 2) scLPieces.nd rfl (Or.inl rfl) (pe_lst pa_nil))
        (pss_cons (ps_for PassesOwn.never rfl (pi_range1 (by rfl) T.range (pa_cons (pv 1) pa_nil)) (pg_name (i := 3) scLPieces.nd rfl (Or.inl rfl)) (pss_cons (ps_par (i := 4) (j := 5) (by rfl) scLPieces.nd rfl rfl (by decide) rfl rfl (pa_cons (pe_cd D.law_pick (hr.mono (by decide)) pass0 (pa_cons (pv 0) (pa_cons (pe_lst (pa_cons pe_str (pa_cons pe_str (pa_cons pe_str (pa_cons pe_str (pa_cons pe_str pa_nil)))))) pa_nil))) (pa_cons (pe_op op_sub (pe_cd D.law_draw (hr.mono (by decide)) pass0 (pa_cons (pv 0) (pa_cons pe_int pa_nil))) pe_int) pa_nil)) (by rfl))
        (pss_one (ps_expr (pe_bm PySem.F.plainAttrs_list PySem.F.slot_list_append PySem.F.type_list_append mt_append (pv 2) (pa_cons (pe_ifExp (pt_cmpR op_eq (pv 4) pe_str (nomark _)) (pe_tup (pa_cons (pv 4) (pa_cons (pv 5) pa_nil))) (pe_tup (pa_cons (pv 4) (pa_cons (pv 5) (pa_cons (pe_op op_add pe_int (pe_cd D.law_draw (hr.mono (by decide)) pass0 (pa_cons (pv 0) (pa_cons pe_int pa_nil)))) pa_nil))))) pa_nil))))))
        (pss_one (ps_ret (pv 2))))), ?_⟩
    refine ⟨Nat.zero_le _, fun r hr0 => ?_⟩
    have lr : l ≠ r := by
      obtain ⟨cs, bb, q1, q2, q3⟩ := pen
      exact ne_of_none q2 hr0
    have s1 := same_upd (o := HO.lst []) hr0
    have pen1 : Pen (upd H r (.lst [])) d l a := pen.same s1
    have rq : (upd H r (.lst [])) r = some (.lst []) := upd_same
    refine ⟨_, rfl, n, rfl, by omega, by omega, for_range (lo := 0) (n := n.toNat) (fun i σ H' => ∃ (a' : Int) (x3 x4 x5 : Option V) (xs : List V) (ps : List Pc), σ = [some (.ref d), some (.int n), some (.ref r), x3, x4, x5] ∧ Pen H' d l a' ∧ a ≤ a' ∧ a' ≤ a + 3 * i ∧ But d H H' ∧ H' r = some (.lst xs) ∧ PcsA H' xs ps ∧ ps.length = i ∧ ∀ p ∈ ps, PcD p)
      ⟨a, _, _, _, [], [], rfl, pen1, Int.le_refl _, by omega, But.same s1, rq, .nil, rfl, fun p hp => (nomatch hp)⟩ ?_ ?_⟩
    · rintro i σ H1 hi ⟨a', x3, x4, x5, xs, ps, rfl, pen2, h1, h2, b2, rq2, al, hl, hd⟩
      refine ⟨_, rfl, (by show 5 ≤ sizeLine; decide), fun t ht => ?_⟩
      have sT := same_upd (o := HO.lst [.str "one", .str "one", .str "up", .str "down", .str "every"]) ht
      have tq : (upd H1 t (HO.lst [.str "one", .str "one", .str "up", .str "down", .str "every"])) t = some (.lst [.str "one", .str "one", .str "up", .str "down", .str "every"]) := upd_same
      have penT := pen2.same sT
      have alT := al.same sT
      have rqT := sT _ _ rq2
      have bT := b2.trans (But.same sT)
      generalize upd H1 t (HO.lst [.str "one", .str "one", .str "up", .str "down", .str "every"]) = H2 at sT tq penT alT rqT bT ⊢
      refine ⟨d, l, a', .ref t, rfl, penT, by omega, .inl ⟨t, _, rfl, penT.dne tq, tq, (fun z => nomatch z), (by show 5 ≤ 1000; decide), fun x a2 H3 hx g1 g2 pen3 b3 => ?_⟩⟩
      obtain ⟨k0, rfl⟩ : ∃ k0 : Kd, x = .str k0.w := by
        rcases List.mem_cons.mp hx with rfl | hx
        · exact ⟨.one, rfl⟩
        · rcases List.mem_cons.mp hx with rfl | hx
          · exact ⟨.one, rfl⟩
          · rcases List.mem_cons.mp hx with rfl | hx
            · exact ⟨.up, rfl⟩
            · rcases List.mem_cons.mp hx with rfl | hx
              · exact ⟨.dn, rfl⟩
              · rw [List.mem_singleton] at hx
                exact ⟨.ev, hx⟩
      have al3 := alT.but penT b3
      have rq3 := keepL penT b3 rqT
      have b03 := bT.trans b3
      refine ⟨_, rfl, d, l, a2, 61, rfl, pen3, by omega, by decide, by decide, fun sp a3 H4 sp0 sp1 g3 g4 pen4 b4 => ?_⟩
      have al4 := al3.but pen3 b4
      have rq4 := keepL pen3 b4 rq3
      have b04 := b03.trans b4
      refine ⟨_, _, rfl, rfl, _, _, rfl, ?_⟩
      -- found.append(..)
      have fin : ∀ (p : Pc) (tp : Addr) (a5 : Int) (H5 : Hp), PcD p → H5 tp = some (.tup p.vals) → Pen H5 d l a5 → a3 ≤ a5 → a5 ≤ a3 + 1 → But d H4 H5 → ∃ (l' : Addr) (xs' : List V) (y : V), V.ref r = .ref l' ∧ [V.ref tp] = [y] ∧ H5 l' = some (.lst xs') ∧ xs'.length < sizeLine ∧
          ∃ (a' : Int) (x3 x4 x5 : Option V) (xs : List V) (ps : List Pc), [some (V.ref d), some (.int n), some (.ref r), some (.int (0 + (i : Int))), some (.str k0.w), some (.int (sp - 30))] = [some (.ref d), some (.int n), some (.ref r), x3, x4, x5] ∧ Pen (upd H5 l' (.lst (xs' ++ [y]))) d l a' ∧ a ≤ a' ∧ a' ≤ a + 3 * ((i + 1 : Nat) : Int) ∧ But d H (upd H5 l' (.lst (xs' ++ [y]))) ∧ (upd H5 l' (.lst (xs' ++ [y]))) r = some (.lst xs) ∧ PcsA (upd H5 l' (.lst (xs' ++ [y]))) xs ps ∧ ps.length = i + 1 ∧ ∀ p ∈ ps, PcD p := by
        intro p tp a5 H5 hp tq5 pen5 g5 g6 b5
        have rq5 := keepL pen4 b5 rq4
        have al5 := al4.but pen4 b5
        have xl : xs.length = i := by rw [al.len, hl]
        have mv : ∀ c u, H5 c = some u → c ≠ r → (upd H5 r (.lst (xs ++ [.ref tp]))) c = some u := fun c u z n => by rw [upd_ne n]; exact z
        have nt : ∀ {c : Addr} {zs : List V}, H5 c = some (.tup zs) → c ≠ r := fun z e => by rw [e, rq5] at z; cases z
        refine ⟨r, xs, _, rfl, rfl, rq5, by have := sizeLine_eq; omega, a5, _, _, _, xs ++ [.ref tp], ps ++ [p], rfl, ?_, by omega, by push_cast; omega, fun c u z n => ?_, upd_same, ?_, by rw [List.length_append, hl]; rfl, fun q hq => ?_⟩
        · obtain ⟨cs, bb, q1, q2, q3⟩ := pen5
          exact ⟨cs, bb, mv _ _ q1 (fun e => by rw [e, rq5] at q1; cases q1), mv _ _ q2 lr, q3⟩
        · rw [upd_ne (fun e => by rw [e, hr0] at z; cases z)]
          exact b5 _ _ (b04 _ _ z n) n
        · exact (All2.mono (fun _ _ ⟨t, e, z⟩ => ⟨t, e, mv _ _ z (nt z)⟩) al5).snoc ⟨tp, rfl, mv _ _ tq5 (nt tq5)⟩
        · rcases List.mem_append.mp hq with hq | hq
          · exact hd q hq
          · rw [List.mem_singleton.mp hq]
            exact hp
      refine ⟨_, rfl, tyL rq4, _, rfl, rfl, _, rfl, ifQ (fun e => ?_) (fun e => ?_)⟩
      · have ek : k0 = .one := Kd.w_inj (V.str.inj (of_decide_eq_true e))
        refine ⟨_, rfl, _, rfl, (by show 2 ≤ sizeLine; decide), fun tp htp => ?_⟩
        exact fin ⟨k0, sp - 30, 0⟩ tp a3 _ (pcD_mk (by omega) (by omega) fun z => absurd ek z) (by rw [upd_same]; unfold Pc.vals; rw [if_pos ek, ek]; rfl) (pen4.same (same_upd htp)) (Int.le_refl _) (by omega) (But.same (same_upd htp))
      · have ek : k0 ≠ .one := fun z => (of_decide_eq_false e) (by rw [z]; rfl)
        refine ⟨_, rfl, _, rfl, _, rfl, d, l, a3, 9, rfl, pen4, by omega, by decide, by decide, fun st a5 H5 st0 st1 g5 g6 pen5 b5 => ?_⟩
        refine ⟨_, _, rfl, rfl, (by show 3 ≤ sizeLine; decide), fun tp htp => ?_⟩
        exact fin ⟨k0, sp - 30, 1 + st⟩ tp a5 _ (pcD_mk (by omega) (by omega) fun _ => ⟨by omega, by omega⟩) (by rw [upd_same]; unfold Pc.vals; rw [if_neg ek]) (pen5.same (same_upd htp)) g5 g6 (b5.trans (But.same (same_upd htp)))
    · rintro σ H1 ⟨a', x3, x4, x5, xs, ps, rfl, pen2, h1, h2, b2, rq2, al, hl, hd⟩
      exact ⟨_, rfl, k r xs ps hl hd a' H1 h1 (by omega) pen2 b2 rq2 al⟩
theorem scLInP : FnScope ["_law_piece", "_law_day", "_law_gap"] ["_law_piece", "_law_day"] (defScope (top i__law_in_piece)) := ⟨rfl, rfl, rfl, by decide +kernel, rfl, by decide +kernel, by decide +kernel⟩
theorem ok_linp (F : FnG K "_law_in_piece" i__law_in_piece f fd) : FnOk P w K mg base CX0 1 f fd ["_law_piece", "_law_day"] spLInP := by
  refine F.ok scLInP (fun vs H Q E h => ?_) (fun cdv A outer s H vs Q E hr h => ?_)
  · obtain ⟨t, p, x, rfl, _⟩ := h
    rfl
  · obtain ⟨t, p, x, rfl, tq, hg, k⟩ := h
    have hu := hu_of hr
    refine ⟨_, PSs.nox (pss_cons (ps_set (i := 2) scLInP.nd rfl (Or.inl rfl) (pe_op op_sub (pv 1) (pe_ix ix_tup (pv 0) pe_int (fun _ _ => rfl))))
        (pss_cons (ps_if (pt_cmpR op_eq (pe_ix ix_tup (pv 0) pe_int (fun _ _ => rfl)) pe_str (nomark _)) (pss_one (ps_ret (pe_cmpR op_eq (pv 2) pe_int (nomark _)))) pss_nil)
        (pss_one (ps_ret (pe_and (pe_cmpR op_eq (pe_op op_mod (pv 2) (pe_ix ix_tup (pv 0) pe_int (fun _ _ => rfl))) pe_int (nomark _)) (pe_one (pe_dget hu (pe_disp (pps_cons pe_str (pe_cmpR op_ge (pv 2) pe_int (nomark _)) (pps_cons pe_str (pe_cmpR op_le (pv 2) pe_int (nomark _)) (pps_cons pe_str pe_bl pps_nil))) (by rfl) (by rfl) (fun z => by cases z) (by decide)) (pe_ix ix_tup (pv 0) pe_int (fun _ _ => rfl)) (fun _ _ => rfl)))))))), ?_⟩
    refine ⟨_, rfl, _, rfl, t, _, _, .int p.a, rfl, rfl, SqT.of tq, p.at1, _, _, rfl, rfl, ?_⟩
    refine ⟨_, rfl, t, _, _, _, rfl, rfl, SqT.of tq, p.at0, rfl, _, rfl, ifQ (fun e => ?_) (fun e => ?_)⟩
    · have ek : p.k = .one := Kd.w_inj (V.str.inj (of_decide_eq_true e))
      have e2 : inP p x = decide (V.int (x - p.a) = V.int 0) := by
        rw [show inP p x = decide (x = p.a) from by unfold inP; rw [ek]]
        by_cases h : x = p.a
        · rw [decide_eq_true h, decide_eq_true (by rw [h]; simp)]
        · rw [decide_eq_false h, decide_eq_false (fun z => h (by have := V.int.inj z; omega))]
      rw [e2] at k
      exact ⟨_, rfl, rfl, k _ (Same.refl _)⟩
    · have ek : p.k ≠ .one := fun z => (of_decide_eq_false e) (by rw [z]; rfl)
      have gs := hg ek
      refine ⟨_, rfl, _, rfl, t, _, _, .int p.s, rfl, rfl, SqT.of tq, p.at2 ek, x - p.a, p.s, rfl, rfl, by omega, rfl, ?_⟩
      have em : decide (V.int ((x - p.a) % p.s) = V.int 0) = decide ((x - p.a) % p.s = 0) := by
        by_cases h : (x - p.a) % p.s = 0
        · rw [decide_eq_true h, decide_eq_true (by rw [h])]
        · rw [decide_eq_false h, decide_eq_false (fun z => h (V.int.inj z))]
      refine ⟨_, rfl, ifQ (fun e2 => ?_) (fun e2 => ?_)⟩
      · have e3 := em.symm.trans e2
        refine fun u hu0 => ?_
        refine ⟨_, rfl, _, _, rfl, rfl, _, rfl, _, _, rfl, rfl, upd_same, [(Sum.inr "up", .bl (decide (0 ≤ x - p.a))), (Sum.inr "down", .bl (decide (x - p.a ≤ 0))), (Sum.inr "every", .bl true)], rfl, (by show 3 ≤ 15; decide), ?_⟩
        rw [upd_upd]
        have s1 := same_upd (o := HO.dK (mergeK [] [(Sum.inr "up", .bl (decide (0 ≤ x - p.a))), (Sum.inr "down", .bl (decide (x - p.a ≤ 0))), (Sum.inr "every", .bl true)])) hu0
        have uq : (upd H u (HO.dK (mergeK [] [(Sum.inr "up", .bl (decide (0 ≤ x - p.a))), (Sum.inr "down", .bl (decide (x - p.a ≤ 0))), (Sum.inr "every", .bl true)]))) u = _ := upd_same
        generalize upd H u (HO.dK (mergeK [] [(Sum.inr "up", .bl (decide (0 ≤ x - p.a))), (Sum.inr "down", .bl (decide (x - p.a ≤ 0))), (Sum.inr "every", .bl true)])) = H1 at s1 uq ⊢
        have k1 := k _ s1
        have dg : ∀ b : Bool, valV (mergeK [] [(Sum.inr "up", .bl (decide (0 ≤ x - p.a))), (Sum.inr "down", .bl (decide (x - p.a ≤ 0))), (Sum.inr "every", .bl true)]) (Sum.inr p.k.w) = some (.bl b) → DGet H1 u (.str p.k.w) (some (.bl b)) := fun b h => by
          have z := DGet.k (k := Sum.inr p.k.w) uq
          rw [h] at z
          exact z
        refine ⟨_, rfl, t, _, _, .str p.k.w, rfl, rfl, SqT.of (s1 _ _ tq), p.at0, u, .bl (inP p x), rfl, dg _ ?_, k1⟩
        cases hk : p.k with
        | one => exact absurd hk ek
        | up =>
          rw [show inP p x = (decide ((x - p.a) % p.s = 0) && decide (p.a ≤ x)) from by unfold inP; rw [hk], e3, Bool.true_and, show decide (p.a ≤ x) = decide (0 ≤ x - p.a) from by by_cases h : p.a ≤ x <;> simp [h] <;> omega]
          rfl
        | dn =>
          rw [show inP p x = (decide ((x - p.a) % p.s = 0) && decide (x ≤ p.a)) from by unfold inP; rw [hk], e3, Bool.true_and, show decide (x ≤ p.a) = decide (x - p.a ≤ 0) from by by_cases h : x ≤ p.a <;> simp [h] <;> omega]
          rfl
        | ev =>
          rw [show inP p x = decide ((x - p.a) % p.s = 0) from by unfold inP; rw [hk], e3]
          rfl
      · have e3 := em.symm.trans e2
        have e4 : inP p x = false := by
          cases hk : p.k with
          | one => exact absurd hk ek
          | up => rw [show inP p x = (decide ((x - p.a) % p.s = 0) && decide (p.a ≤ x)) from by unfold inP; rw [hk], e3]; rfl
          | dn => rw [show inP p x = (decide ((x - p.a) % p.s = 0) && decide (x ≤ p.a)) from by unfold inP; rw [hk], e3]; rfl
          | ev => rw [show inP p x = decide ((x - p.a) % p.s = 0) from by unfold inP; rw [hk], e3]
        have k1 := k _ (Same.refl _)
        rw [e4] at k1
        exact k1
structure DLIn (P : Program) (w : World) (K : PySem.W.Frag) (mg : Str → Option Value) (base : Heap) : Prop where
  law_in_piece : Df P w K mg base CX0 1 "_law_in_piece" ["_law_piece", "_law_day"] spLInP
  any : mg "any" = none
theorem scLInPs : FnScope ["_law_pieces_here", "_law_day", "_law_piece"] ["_law_pieces_here", "_law_day"] (defScope (top i__law_in_pieces)) := ⟨rfl, rfl, rfl, by decide +kernel, rfl, by decide +kernel, by decide +kernel⟩
theorem ok_linps (F : FnG K "_law_in_pieces" i__law_in_pieces f fd) (D : DLIn P w K mg base) : FnOk P w K mg base CX0 2 f fd ["_law_pieces_here", "_law_day"] spLInPs := by
  refine F.ok scLInPs (fun vs H Q E h => ?_) (fun cdv A outer s H vs Q E hr h => ?_)
  · obtain ⟨r, xs, ps, x, rfl, _⟩ := h
    rfl
  · obtain ⟨r, xs, ps, x, rfl, rq, al, hg, hl, k⟩ := h
    have hxl := al.len
    refine ⟨_, PSs.nox (pss_one (ps_ret (pe_callB (cr_any rfl) (by rfl) D.any (by decide +kernel) (pa_cons (pe_lc (own := [("_law_piece", 2)]) rfl scLInPs.nd (pi_list (pv 0)) (blkOk_by (own := [("_law_piece", 2)]) (N := ["_law_pieces_here", "_law_day", "_law_piece"]) (sc := defScope (top i__law_in_pieces)) (by decide +kernel)) (fun _ _ _ _ _ => (pg_name (i := 2) scLInPs.nd rfl (Or.inl rfl))) (fun _ _ _ _ _ => pts_nil) (fun _ _ _ _ _ => (pe_cd D.law_in_piece (hr.mono (by decide)) pass0 (pa_cons (pv 2) (pa_cons (pv 1) pa_nil))))) pa_nil)))), ?_⟩
    refine ⟨_, rfl, r, rfl, ⟨_, SqL.of rq⟩, fun lB hlB => lc_list (xs := xs) (fun i H' => Same H H' ∧ H' lB = some (.lst (((ps.map (fun p => inP p x)).take i).map V.bl))) ⟨same_upd hlB, upd_same⟩ (fun i H' _ z => SqL.of (z.1 _ _ rq)) ?_ ?_⟩
    · rintro i v H2 hvx ⟨s2, q2⟩
      obtain ⟨p, hp, t, rfl, tq⟩ := al.at hvx
      refine ⟨rfl, iteT (B := Same H H2 ∧ H2 lB = some (.lst (((ps.map (fun p => inP p x)).take (i + 1)).map V.bl))) ?_⟩
      have hix := (List.getElem?_eq_some_iff.mp hp).1
      refine ⟨_, rfl, _, rfl, t, p, x, rfl, s2 _ _ tq, hg p (List.mem_of_getElem? hp), fun H3 s3 => ?_⟩
      refine ⟨_, s3 _ _ q2, by rw [List.length_map, List.length_take, List.length_map, sizeLine_eq]; omega, fun c o zz => ?_, ?_⟩
      · rw [upd_ne (ne_of_none zz hlB)]
        exact s3 _ _ (s2 _ _ zz)
      · rw [upd_same, List.take_add_one, List.getElem?_map, hp, List.map_append]
        rfl
    · rintro H2 ⟨s2, q2⟩
      rw [List.take_of_length_le (by rw [List.length_map, hxl]; exact Nat.le_refl _)] at q2
      refine ⟨lB, _, rfl, SqL.of q2, ?_⟩
      have e3 : (ps.map (fun p => inP p x)).any id = inPs ps x := by rw [List.any_map]; rfl
      rw [e3]
      exact k _ s2
end
end Wd
end
section
set_option Elab.async false
set_option linter.all false
set_option maxRecDepth 100000
set_option maxHeartbeats 2000000
set_option pp.maxSteps 900
/-! ### _upward_sums -/
namespace Wd
open PySem PySem.Spec PyProof.Rows L2 Wt TL NumText
/-- pieces of which sums are made: few, small where steps are met -/
def SumOk (ps : List Pc) : Prop := ps.length ≤ 7 ∧ ∀ p ∈ ps, p.good ∧ -100000000 ≤ p.a ∧ p.a ≤ 100000000 ∧ (p.k ≠ .one → p.s ≤ 1000)
def spUp : Sp := fun vs H Q _ => ∃ (a b : Addr) (xs ys : List V) (ps qs : List Pc) (B : Nat), vs = [.ref a, .ref b] ∧ SeqH H a xs ∧ SeqH H b ys ∧ PcsA H xs ps ∧ PcsA H ys qs ∧ SumOk ps ∧ SumOk qs ∧ UB (pairsU ps qs) B ∧ B ≤ 1000 ∧
  ∀ u us zs T H', Same H H' → H' u = some (.lst zs) → PcsA H' zs us → us.length ≤ B → (∀ t, t ∈ T ↔ t ∈ pairsU ps qs) → UpS T us → Q (.ref u) H'
theorem tr_ints {t : Int × Int × Int} : ([t.1, t.2.1, t.2.2] : List Int).map V.int = [.int t.1, .int t.2.1, .int t.2.2] := rfl
section
variable {P : Program} {w : World} {K : PySem.W.Frag} {mg : Str → Option Value} {base : Heap} {f : Addr} {fd : FuncData}
structure DUp (P : Program) (w : World) (K : PySem.W.Frag) (mg : Str → Option Value) (base : Heap) : Prop where
  least_sums : Df P w K mg base CX0 1 "_least_sums" ["step", "pairs"] spLeastS
theorem scUp : FnScope ["one", "other", "pairs", "found", "step", "starts", "mine", "yours", "pair", "narrow", "start", "wide"] ["one", "other"] (defScope (top i__upward_sums)) := ⟨rfl, rfl, rfl, by decide +kernel, rfl, by decide +kernel, by decide +kernel⟩
theorem ok_up (F : FnG K "_upward_sums" i__upward_sums f fd) (T : Tx K mg) (D : DUp P w K mg base) : FnOk P w K mg base CX0 2 f fd ["one", "other"] spUp := by
  refine F.ok scUp (fun vs H Q E h => ?_) (fun cdv A outer s H vs Q E hr h => ?_)
  · obtain ⟨a, b, xs, ys, ps, qs, B, rfl, _⟩ := h
    rfl
  · obtain ⟨a, b, xs, ys, ps, qs, B, rfl, hx, hy, ax, ay, ⟨np, gp⟩, ⟨nq, gq⟩, ub, hB, k⟩ := h
    have hu := hu_of hr
    have lx := ax.len
    have ly := ay.len
    have gpp : ∀ p ∈ ps, p.good := fun p hp => (gp p hp).1
    have gqq : ∀ p ∈ qs, p.good := fun p hp => (gq p hp).1
    have plen : ∀ i, (pairsU (ps.take i) qs).length ≤ 49 := fun i => by
      have h1 := pairsU_len qs (ps.take i)
      have h2 : (ps.take i).length ≤ 7 := by rw [List.length_take]; omega
      have h3 := Nat.mul_le_mul h2 nq
      omega
    refine ⟨_, PSs.nox (pss_cons (ps_set (i := 2) scUp.nd rfl (Or.inl rfl) (pe_callB cr_sortI (by rfl) T.sorted (by decide +kernel) (pa_cons (pe_lc2 (own := [("mine", 6), ("yours", 7)]) (wi1 := iSeqE K (tVar 1)) (vs1 := [7]) (g := gName 6) (g1 := gName 7) rfl scUp.nd (pi_seqE (pv 0)) (blkOk_by (own := [("mine", 6), ("yours", 7)]) (N := ["one", "other", "pairs", "found", "step", "starts", "mine", "yours", "pair", "narrow", "start", "wide"]) (sc := defScope (top i__upward_sums)) (by decide +kernel)) (by decide) (fun _ _ _ _ _ => (pg_name (i := 6) scUp.nd rfl (Or.inl rfl))) (fun _ _ _ _ _ => (pts_one (pt_cmpR op_eq (pe_ix (r := rIxT K) ix_tup (pv 6) pe_int (fun _ _ => rfl)) pe_str (nomark _)))) (fun _ _ _ _ _ => (pi_seqE (pv 1))) (fun _ _ _ _ _ => (pg_name (i := 7) scUp.nd rfl (Or.inl rfl))) (fun _ _ _ _ _ => (pts_one (pt_cmpR op_eq (pe_ix (r := rIxT K) ix_tup (pv 7) pe_int (fun _ _ => rfl)) pe_str (nomark _)))) (fun _ _ _ _ _ => (pe_tup (pa_cons (pe_callB (call_min2 rfl) (by rfl) T.min (by decide +kernel) (pa_cons (pe_ix (r := rIxT K) ix_tup (pv 6) pe_int (fun _ _ => rfl)) (pa_cons (pe_ix (r := rIxT K) ix_tup (pv 7) pe_int (fun _ _ => rfl)) pa_nil))) (pa_cons (pe_op op_add (pe_ix (r := rIxT K) ix_tup (pv 6) pe_int (fun _ _ => rfl)) (pe_ix (r := rIxT K) ix_tup (pv 7) pe_int (fun _ _ => rfl))) (pa_cons (pe_callB (call_max2 rfl) (by rfl) T.max (by decide +kernel) (pa_cons (pe_ix (r := rIxT K) ix_tup (pv 6) pe_int (fun _ _ => rfl)) (pa_cons (pe_ix (r := rIxT K) ix_tup (pv 7) pe_int (fun _ _ => rfl)) pa_nil))) pa_nil)))))) pa_nil)))
        (pss_cons (ps_set (i := 3) scUp.nd rfl (Or.inl rfl) (pe_lst pa_nil))
        (pss_cons (ps_for PassesOwn.never rfl (pi_list (pe_callB (cr_sortedSet rfl) (by rfl) T.sorted (by decide +kernel) (pa_cons (pe_sc1P (w := w) rfl (own := [("pair", 8)]) rfl scUp.nd (pi_list (pv 2)) (blkOk_by (own := [("pair", 8)]) (N := ["one", "other", "pairs", "found", "step", "starts", "mine", "yours", "pair", "narrow", "start", "wide"]) (sc := defScope (top i__upward_sums)) (by decide +kernel)) (fun _ _ _ _ _ => (pg_name (i := 8) scUp.nd rfl (Or.inl rfl))) (fun _ _ _ _ _ => pts_nil) (fun _ _ _ _ _ => (pe_ix (r := rIxT K) ix_tup (pv 8) pe_int (fun _ _ => rfl)))) pa_nil))) (pg_name (i := 4) scUp.nd rfl (Or.inr rfl)) (pss_cons (ps_set (i := 5) scUp.nd rfl (Or.inl rfl) (pe_cd D.least_sums (hr.mono (by decide)) pass0 (pa_cons (pv 4) (pa_cons (pe_lc (own := [("narrow", 9), ("start", 10), ("wide", 11)]) (g := gTup K 3 (gCons (gName 9) (gCons (gName 10) (gCons (gName 11) gNil)))) rfl scUp.nd (pi_list (pv 2)) (blkOk_by (own := [("narrow", 9), ("start", 10), ("wide", 11)]) (N := ["one", "other", "pairs", "found", "step", "starts", "mine", "yours", "pair", "narrow", "start", "wide"]) (sc := defScope (top i__upward_sums)) (by decide +kernel)) (fun _ _ _ _ _ => (pg_tup rfl (pgs_cons (pg_name (i := 9) scUp.nd rfl (Or.inl rfl) (Or.inr rfl)) (pgs_cons (pg_name (i := 10) scUp.nd rfl (Or.inl rfl) (Or.inr rfl)) (pgs_cons (pg_name (i := 11) scUp.nd rfl (Or.inl rfl) (Or.inr rfl)) pgs_nil))))) (fun _ _ _ _ _ => (pts_one (pt_cmpR op_eq (pv 9) (pv 4) (nomark _)))) (fun _ _ _ _ _ => (pe_tup (pa_cons (pv 10) (pa_cons (pv 11) pa_nil))))) pa_nil))))
        (pss_one (ps_expr (pe_bm PySem.F.plainAttrs_list PySem.F.slot_list_extend PySem.F.type_list_extend mt_extend (pv 3) (pa_cons (pe_lc (own := [("start", 10)]) rfl scUp.nd (pi_list (pv 5)) (blkOk_by (own := [("start", 10)]) (N := ["one", "other", "pairs", "found", "step", "starts", "mine", "yours", "pair", "narrow", "start", "wide"]) (sc := defScope (top i__upward_sums)) (by decide +kernel)) (fun _ _ _ _ _ => (pg_name (i := 10) scUp.nd rfl (Or.inl rfl))) (fun _ _ _ _ _ => (pts_one (pt_cmpR op_notN (pv 10) pe_non (nomark _)))) (fun _ _ _ _ _ => (pe_tup (pa_cons pe_str (pa_cons (pv 10) (pa_cons (pv 4) pa_nil)))))) pa_nil))))))
        (pss_one (ps_ret (pv 3)))))), ?_⟩
    refine ⟨_, rfl, a, xs, rfl, hx, fun J G wk hG l hl0 => lc2_out wk (fun i H' => Same H H' ∧ ∃ acc, H' l = some (.lst acc) ∧ All2 (TrA H') acc (pairsU (ps.take i) qs)) ⟨same_upd hl0, [], upd_same, .nil⟩ (fun i H' _ z => hG _ (hx.eq fun o e _ => z.1 _ _ e)) ?_ ?_⟩
    · rintro i v Hy1 H1 hi ⟨s1, acc, q1, al⟩ ⟨rfl, hvx⟩
      obtain ⟨p, hp, pa, rfl, pq⟩ := ax.at hvx
      have htk : ps.take (i + 1) = ps.take i ++ [p] := by rw [List.take_add_one, hp]; rfl
      have pq1 := s1 _ _ pq
      refine ⟨rfl, _, rfl, pa, _, _, _, rfl, rfl, SqT.of pq1, p.at0, rfl, _, rfl, ifQ (fun e => ?_) (fun e => ?_)⟩
      · have ek : p.k = .up := Kd.w_inj (V.str.inj (of_decide_eq_true e))
        have n1 : p.k ≠ .one := by rw [ek]; decide
        have hrow : pairsU (ps.take (i + 1)) qs = pairsU (ps.take i) qs ++ rowU p qs := by
          rw [htk, pairsU_snoc, if_pos ek]
          rfl
        refine ⟨_, rfl, b, ys, rfl, hy.same s1, fun J1 G1 wk1 hG1 => lc2_out wk1 (fun j H' => Same H H' ∧ ∃ acc, H' l = some (.lst acc) ∧ All2 (TrA H') acc (pairsU (ps.take i) qs ++ rowU p (qs.take j))) ⟨s1, acc, q1, by
          rw [List.take_zero]
          show All2 _ _ (_ ++ [])
          rw [List.append_nil]
          exact al⟩ (fun j H' _ z => hG1 _ (by rw [hy.eq fun o e _ => z.1 _ _ e, hy.eq fun o e _ => s1 _ _ e])) ?_ ?_⟩
        · rintro j v Hy2 H2 hj ⟨s2, acc2, q2, al2⟩ ⟨rfl, hvy⟩
          obtain ⟨y, hyq, ya, rfl, yq⟩ := ay.at hvy
          have htj : qs.take (j + 1) = qs.take j ++ [y] := by rw [List.take_add_one, hyq]; rfl
          have yq2 := s2 _ _ yq
          have pq2 := s2 _ _ pq
          refine ⟨rfl, _, rfl, ya, _, _, _, rfl, rfl, SqT.of yq2, y.at0, rfl, _, rfl, ifQ (fun e2 => ?_) (fun e2 => ?_)⟩
          · have ek2 : y.k = .up := Kd.w_inj (V.str.inj (of_decide_eq_true e2))
            have n2 : y.k ≠ .one := by rw [ek2]; decide
            refine ⟨_, rfl, pa, _, _, .int p.s, rfl, rfl, SqT.of pq2, p.at2 n1, _, rfl, ya, _, _, .int y.s, rfl, rfl, SqT.of yq2, y.at2 n2, p.s, y.s, rfl, ?_⟩
            refine ⟨_, rfl, pa, _, _, .int p.a, rfl, rfl, SqT.of pq2, p.at1, _, rfl, ya, _, _, .int y.a, rfl, rfl, SqT.of yq2, y.at1, _, _, rfl, rfl, ?_⟩
            refine ⟨_, rfl, pa, _, _, .int p.s, rfl, rfl, SqT.of pq2, p.at2 n1, _, rfl, ya, _, _, .int y.s, rfl, rfl, SqT.of yq2, y.at2 n2, p.s, y.s, rfl, ?_⟩
            refine ⟨(by show 3 ≤ sizeLine; decide), fun t ht => ?_⟩
            have emin : (if y.s < p.s then y.s else p.s) = min p.s y.s := by
              by_cases h : y.s < p.s
              · rw [if_pos h]; omega
              · rw [if_neg h]; omega
            have emax : (if y.s > p.s then y.s else p.s) = max p.s y.s := by
              by_cases h : y.s > p.s
              · rw [if_pos h]; omega
              · rw [if_neg h]; omega
            rw [emin, emax]
            dsimp only
            have sT := same_upd (o := HO.tup [.int (min p.s y.s), .int (p.a + y.a), .int (max p.s y.s)]) ht
            have tq : (upd H2 t (HO.tup [.int (min p.s y.s), .int (p.a + y.a), .int (max p.s y.s)])) t = some (.tup [.int (min p.s y.s), .int (p.a + y.a), .int (max p.s y.s)]) := upd_same
            have q3 := sT _ _ q2
            have al3 : All2 (TrA (upd H2 t (HO.tup [.int (min p.s y.s), .int (p.a + y.a), .int (max p.s y.s)]))) acc2 _ := TrA.mv al2 fun c zs z => sT _ _ z
            have s3 := s2.trans sT
            generalize upd H2 t (HO.tup [.int (min p.s y.s), .int (p.a + y.a), .int (max p.s y.s)]) = H3 at sT tq q3 al3 s3 ⊢
            have hal := al3.len
            have hl1 := plen i
            have hl2 := rowU_len p (qs.take j)
            have hl3 : (qs.take j).length ≤ 7 := by rw [List.length_take]; omega
            rw [List.length_append] at hal
            refine ⟨acc2, q3, by have := sizeLine_eq; omega, fun c o z => ?_, _, upd_same, ?_⟩
            · rw [upd_ne (ne_of_none z hl0)]
              exact s3 _ _ z
            · rw [htj, rowU_snoc, if_pos ek2, ← List.append_assoc]
              exact (TrA.mv al3 fun c zs z => by rw [upd_ne (fun e => by rw [e, q3] at z; cases z)]; exact z).snoc ⟨t, rfl, by rw [upd_ne (fun e => by rw [e, q3] at tq; cases tq)]; exact tq⟩
          · have ne : y.k ≠ .up := fun z => (of_decide_eq_false e2) (by rw [z]; rfl)
            refine ⟨s2, acc2, q2, ?_⟩
            rw [htj, rowU_snoc, if_neg ne, List.append_nil]
            exact al2
        · rintro H2 ⟨s2, acc2, q2, al2⟩
          rw [ly, List.take_length] at al2
          refine ⟨s2, acc2, q2, ?_⟩
          rw [hrow]
          exact al2
      · have ne : p.k ≠ .up := fun z => (of_decide_eq_false e) (by rw [z]; rfl)
        refine ⟨s1, acc, q1, ?_⟩
        rw [htk, pairsU_snoc, if_neg ne, List.append_nil]
        exact al
    rintro H1 ⟨s1, acc, q1, al⟩
    rw [List.take_of_length_le (by omega)] at al
    refine ⟨l, acc, rfl, SqL.of q1, fun x hx => ?_, fun prs u hperm hu0 => ?_⟩
    · obtain ⟨i, hi⟩ := List.mem_iff_getElem?.mp hx
      obtain ⟨t, ht, ta, rfl, tq⟩ := al.at hi
      exact ⟨[t.1, t.2.1, t.2.2], ⟨ta, rfl, SqT.of tq⟩, fun z => by cases z⟩
    obtain ⟨T0, al0, pT⟩ := all2_perm hperm al
    have hT : ∀ t, t ∈ T0 ↔ t ∈ pairsU ps qs := fun t => pT.mem_iff
    have lT : T0.length ≤ 49 := by
      rw [pT.length_eq]
      have := plen ps.length
      rw [List.take_length] at this
      exact this
    have s2 := same_upd (o := HO.lst prs) hu0
    have uq : (upd H1 u (.lst prs)) u = some (.lst prs) := upd_same
    have al1 : All2 (TrA (upd H1 u (.lst prs))) prs T0 := TrA.mv al0 fun c zs z => s2 _ _ z
    have s02 := s1.trans s2
    generalize upd H1 u (.lst prs) = H2 at s2 uq al1 s02 ⊢
    clear al0 al q1 hperm hl0 hu0 s2 s1
    dsimp only [tNext, gName]
    refine ⟨Nat.zero_le _, fun fo hfo => ?_⟩
    have s3 := same_upd (o := HO.lst []) hfo
    have fq : (upd H2 fo (.lst [])) fo = some (.lst []) := upd_same
    have uq3 := s3 _ _ uq
    have al3 : All2 (TrA (upd H2 fo (.lst []))) prs T0 := TrA.mv al1 fun c zs z => s3 _ _ z
    have s03 := s02.trans s3
    have hfo0 : H fo = none := s02.free hfo
    have uf : u ≠ fo := ne_of_none uq hfo
    generalize upd H2 fo (.lst []) = H3 at s3 fq uq3 al3 s03 ⊢
    clear s3 hfo
    have lprs := al3.len
    -- the narrow steps
    refine ⟨_, rfl, u, rfl, ⟨_, SqL.of uq3⟩, fun Dd hDd => sc1_it (walk_list (xs := prs)) (fun i H' => Same H3 H' ∧ ∃ (S : Int → Bool) (L : List Int), H' Dd = some (SetO w Dd S L.length) ∧ L.length ≤ i ∧ L.Nodup ∧ (∀ k, k ∈ L ↔ S k = true) ∧ ∀ k, k ∈ L ↔ ∃ t ∈ T0.take i, t.1 = k)
      ⟨same_upd hDd, fun _ => false, [], upd_same, Nat.le_refl _, List.nodup_nil, fun k => ⟨(nomatch ·), (nomatch ·)⟩, fun k => ⟨(nomatch ·), fun ⟨p, hp, _⟩ => (nomatch hp)⟩⟩ (fun i H' _ z => SqL.of (z.1 _ _ uq3)) ?_ ?_⟩
    · rintro i v Hy H4 hi ⟨s4, S, L, q4, l4, nd, mS, mP⟩ ⟨rfl, hvx⟩
      obtain ⟨t, ht, ta, rfl, tq⟩ := al3.at hvx
      have htk : T0.take (i + 1) = T0.take i ++ [t] := by rw [List.take_add_one, ht]; rfl
      have tq4 := s4 _ _ tq
      have mem' : ∀ L' : List Int, (∀ k, k ∈ L' ↔ (k ∈ L ∨ k = t.1)) → ∀ k, k ∈ L' ↔ ∃ x ∈ T0.take (i + 1), x.1 = k := fun L' h k => by
        rw [h, mP, htk]
        constructor
        · rintro (⟨x, hx, z⟩ | rfl)
          · exact ⟨x, List.mem_append_left _ hx, z⟩
          · exact ⟨t, List.mem_append_right _ List.mem_cons_self, rfl⟩
        · rintro ⟨x, hx, z1⟩
          rcases List.mem_append.mp hx with hx | hx
          · exact .inl ⟨x, hx, z1⟩
          · rw [List.mem_singleton] at hx
            subst hx
            exact .inr z1.symm
      refine ⟨rfl, iteT (B := False) ?_⟩
      refine ⟨_, rfl, ta, _, _, .int t.1, rfl, rfl, SqT.of tq4, rfl, t.1, S, L.length, rfl, q4, ?_, ?_, ?_⟩
      · have e : scanBound = 4096 := rfl
        omega
      · intro c o z
        rw [upd_ne (ne_of_none z hDd)]
        exact s4 _ _ z
      · cases hS : S t.1 with
        | true =>
          refine ⟨_, L, upd_same, by omega, nd, fun k => ?_, mem' L fun k => ⟨.inl, fun h => h.elim id fun h => by rw [h]; exact (mS _).mpr hS⟩⟩
          rw [mS, Bool.or_eq_true]
          exact ⟨.inl, fun h => h.elim id fun h => by rw [of_decide_eq_true h]; exact hS⟩
        | false =>
          have nm : t.1 ∉ L := fun h => by
            rw [(mS _).mp h] at hS
            cases hS
          refine ⟨_, t.1 :: L, upd_same, by rw [List.length_cons]; omega, List.nodup_cons.mpr ⟨nm, nd⟩, fun k => ?_, mem' _ fun k => ?_⟩
          · rw [List.mem_cons, mS, Bool.or_eq_true]
            exact ⟨fun h => h.elim (fun h => .inr (decide_eq_true h)) .inl, fun h => h.elim .inr fun h => .inl (of_decide_eq_true h)⟩
          · rw [List.mem_cons]
            exact ⟨fun h => h.elim .inr .inl, fun h => h.elim .inr .inl⟩
    rintro H4 ⟨s4, S, L, q4, _, nd, mS, mP⟩
    rw [List.take_of_length_le (by omega)] at mP
    have hss0 : ∀ k ∈ L, ∃ t ∈ pairsU ps qs, t.1 = k := fun k hk => by
      obtain ⟨t, ht, e⟩ := (mP k).mp hk
      exact ⟨t, (hT t).mp ht, e⟩
    refine ⟨Dd, S, L.length, rfl, q4, (ub L nd hss0).2, fun ss ls hpw hmem hlen hls => ?_⟩
    have hss : ∀ k, k ∈ ss ↔ ∃ t ∈ T0, t.1 = k := fun k => by rw [hmem, ← mS, mP]
    have nd2 : ss.Nodup := hpw.imp fun h => by omega
    obtain ⟨sumB, len64⟩ := ub ss nd2 fun k hk => by
      obtain ⟨t, ht, e⟩ := (hss k).mp hk
      exact ⟨t, (hT t).mp ht, e⟩
    have facts : ∀ t ∈ T0, (1 ≤ t.1 ∧ t.1 ≤ 1000) ∧ (1 ≤ t.2.2 ∧ t.2.2 ≤ 1000) ∧ -1000000000 ≤ t.2.1 ∧ t.2.1 ≤ 1000000000 := fun t ht => by
      obtain ⟨m, hm, y, hyq, km, ky, rfl⟩ := mem_pairsU.mp ((hT t).mp ht)
      obtain ⟨g1, g2, g3, g4⟩ := gp m hm
      obtain ⟨j1, j2, j3, j4⟩ := gq y hyq
      have n1 : m.k ≠ .one := by rw [km]; decide
      have n2 : y.k ≠ .one := by rw [ky]; decide
      have := g1 n1
      have := g4 n1
      have := j1 n2
      have := j4 n2
      show (1 ≤ min m.s y.s ∧ min m.s y.s ≤ 1000) ∧ (1 ≤ max m.s y.s ∧ max m.s y.s ≤ 1000) ∧ -1000000000 ≤ m.a + y.a ∧ m.a + y.a ≤ 1000000000
      omega
    have pos : ∀ s ∈ ss, 1 ≤ s ∧ s ≤ 1000 := fun s hs => by
      obtain ⟨t, ht, rfl⟩ := (hss s).mp hs
      exact (facts t ht).1
    have s5 := s4.trans (same_upd (o := HO.lst (ss.map V.int)) hls)
    have lsq : (upd H4 ls (.lst (ss.map V.int))) ls = some (.lst (ss.map V.int)) := upd_same
    have uq5 := s5 _ _ uq3
    have fq5 := s5 _ _ fq
    have al5 : All2 (TrA (upd H4 ls (.lst (ss.map V.int)))) prs T0 := TrA.mv al3 fun c zs z => s5 _ _ z
    have s05 := s03.trans s5
    have lsf : ls ≠ fo := fun e => by
      rw [e, s4 _ _ fq] at hls
      cases hls
    generalize upd H4 ls (.lst (ss.map V.int)) = H5 at s5 lsq uq5 fq5 al5 s05 ⊢
    clear s4 q4 s5 hls hDd uq3 fq al3
    have foT : ∀ {H' : Hp} {c : Addr} {zs ys : List V}, H' fo = some (.lst zs) → H' c = some (.tup ys) → c ≠ fo := fun h1 h2 e => by
      rw [e, h1] at h2
      cases h2
    refine ⟨ls, rfl, ⟨_, SqL.of lsq⟩, for_list (xs := ss.map V.int) (fun i σ H' => ∃ (x4 x5 : Option V), σ = [some (.ref a), some (.ref b), some (.ref u), some (.ref fo), x4, x5, none, none, none, none, none, none] ∧ (∀ c o, H5 c = some o → c ≠ fo → H' c = some o) ∧ ∃ (zs : List V) (Ls : Int → List (Option Int)), H' fo = some (.lst zs) ∧ PcsA H' zs (((ss.take i).map fun s => upsOf s (Ls s)).flatten) ∧ ∀ s ∈ ss.take i, Lst s (prsOf T0 s) (Ls s))
      ⟨_, _, rfl, fun c o z _ => z, [], fun _ => [], fq5, .nil, fun s h => absurd h (by simp)⟩ (fun i σ H' _ z => ?_) ?_ ?_⟩
    · obtain ⟨_, _, _, z, _⟩ := z
      exact SqL.of (z _ _ lsq lsf)
    · rintro i v σ H6 hvx ⟨x4, x5, rfl, m6, zs, Ls, fq6, az, hLs⟩
      obtain ⟨s, hs, rfl⟩ : ∃ s, ss[i]? = some s ∧ V.int s = v := by
        rw [List.getElem?_map] at hvx
        exact Option.map_eq_some_iff.mp hvx
      have hsm := List.mem_of_getElem? hs
      have htk : ss.take (i + 1) = ss.take i ++ [s] := by rw [List.take_add_one, hs]; rfl
      have hnew : s ∉ ss.take i := fun h => by
        have z : (ss.take (i + 1)).Nodup := nd2.sublist (List.take_sublist _ _)
        rw [htk] at z
        exact (List.nodup_append.mp z).2.2 s h s (List.mem_singleton.mpr rfl) rfl
      obtain ⟨p1, p2⟩ := pos s hsm
      have uq6 := m6 _ _ uq5 uf
      have al6 : All2 (TrA H6) prs T0 := TrA.mv al5 fun c zs z => m6 _ _ z (foT fq5 z)
      refine ⟨_, rfl, _, rfl, u, rfl, ⟨_, SqL.of uq6⟩, fun D2 hD2 => lc_list (xs := prs) (fun j H' => Same H6 H' ∧ ∃ acc, H' D2 = some (.lst acc) ∧ All2 (PrA H') acc (prsOf (T0.take j) s)) ⟨same_upd hD2, [], upd_same, .nil⟩ (fun j H' _ z => SqL.of (z.1 _ _ uq6)) ?_ ?_⟩
      · rintro j v H7 hvj ⟨s7, acc, q7, a7⟩
        obtain ⟨t, ht, ta, rfl, tq⟩ := al6.at hvj
        have htj : T0.take (j + 1) = T0.take j ++ [t] := by rw [List.take_add_one, ht]; rfl
        refine ⟨ta, _, rfl, SqT.of (s7 _ _ tq), rfl, _, _, rfl, _, _, rfl, _, _, rfl, rfl, ?_⟩
        refine ⟨rfl, _, rfl, _, rfl, rfl, _, rfl, ifQ (fun e => ?_) (fun e => ?_)⟩
        · have e : t.1 = s := V.int.inj (of_decide_eq_true e)
          refine ⟨_, rfl, _, rfl, (by show 2 ≤ sizeLine; decide), fun tt htt => ?_⟩
          have sT := same_upd (o := HO.tup [.int t.2.1, .int t.2.2]) htt
          have q8 := sT _ _ q7
          have hl := a7.len
          have := prsOf_len (T0.take j) s
          rw [List.length_take] at this
          refine ⟨acc, q8, by have := sizeLine_eq; omega, fun c o z => ?_, _, upd_same, ?_⟩
          · rw [upd_ne (ne_of_none z hD2)]
            exact sT _ _ (s7 _ _ z)
          · have mv : ∀ c zs, (upd H7 tt (HO.tup [.int t.2.1, .int t.2.2])) c = some (.tup zs) → (upd (upd H7 tt (HO.tup [.int t.2.1, .int t.2.2])) D2 (.lst (acc ++ [.ref tt]))) c = some (.tup zs) := fun c zs z => by
              rw [upd_ne (fun e => by rw [e, q8] at z; cases z)]
              exact z
            rw [htj, prsOf_snoc, if_pos e]
            exact (All2.mono (fun _ _ ⟨x, e, z⟩ => ⟨x, e, mv _ _ (sT _ _ z)⟩) a7).snoc ⟨tt, rfl, mv _ _ upd_same⟩
        · have e : t.1 ≠ s := fun z => (of_decide_eq_false e) (by rw [z])
          refine ⟨s7, acc, q7, ?_⟩
          rw [htj, prsOf_snoc, if_neg e, List.append_nil]
          exact a7
      · rintro H7 ⟨s7, acc, q7, a7⟩
        rw [List.take_of_length_le (by omega)] at a7
        have hlp := prsOf_len T0 s
        refine ⟨D2, s, acc, prsOf T0 s, rfl, p1, p2, q7, a7, by omega, fun p hp => ?_, fun st L H8 s8 stq hL => ?_⟩
        · obtain ⟨_, f2, f3⟩ := facts _ (prsOf_mem hp)
          exact ⟨f2.1, f2.2, f3.1, f3.2⟩
        have fq8 := s8 _ _ (s7 _ _ fq6)
        have hLl := hL.len
        refine ⟨_, rfl, tyL fq8, _, rfl, st, rfl, ⟨_, SqL.of stq⟩, fun D3 hD3 => lc_list (xs := L.map ovI) (fun j H' => Same H8 H' ∧ ∃ acc, H' D3 = some (.lst acc) ∧ PcsA H' acc (upsOf s (L.take j))) ⟨same_upd hD3, [], upd_same, .nil⟩ (fun j H' _ z => SqL.of (z.1 _ _ stq)) ?_ ?_⟩
        · rintro j v H9 hvj ⟨s9, acc9, q9, a9⟩
          obtain ⟨o, ho, rfl⟩ : ∃ o, L[j]? = some o ∧ ovI o = v := by
            rw [List.getElem?_map] at hvj
            exact Option.map_eq_some_iff.mp hvj
          have htj : L.take (j + 1) = L.take j ++ [o] := by rw [List.take_add_one, ho]; rfl
          have hlj := (List.getElem?_eq_some_iff.mp ho).1
          refine ⟨rfl, _, rfl, rfl, _, rfl, ?_⟩
          cases o with
          | none =>
            refine ifN rfl ⟨s9, acc9, q9, ?_⟩
            rw [htj, upsOf_snoc]
            simp only [List.append_nil]
            exact a9
          | some v =>
            refine ifB rfl ⟨_, rfl, _, rfl, (by show 3 ≤ sizeLine; decide), fun tt htt => ?_⟩
            have sT := same_upd (o := HO.tup [.str "up", .int v, .int s]) htt
            have qA := sT _ _ q9
            have hl := a9.len
            have := upsOf_len s (L.take j)
            rw [List.length_take] at this
            refine ⟨acc9, qA, by have := sizeLine_eq; omega, fun c o z => ?_, _, upd_same, ?_⟩
            · rw [upd_ne (ne_of_none z hD3)]
              exact sT _ _ (s9 _ _ z)
            · have mv : ∀ c zs, (upd H9 tt (HO.tup [.str "up", .int v, .int s])) c = some (.tup zs) → (upd (upd H9 tt (HO.tup [.str "up", .int v, .int s])) D3 (.lst (acc9 ++ [.ref tt]))) c = some (.tup zs) := fun c zs z => by
                rw [upd_ne (fun e => by rw [e, qA] at z; cases z)]
                exact z
              rw [htj, upsOf_snoc]
              exact (All2.mono (fun _ _ ⟨x, e, z⟩ => ⟨x, e, mv _ _ (sT _ _ z)⟩) a9).snoc ⟨tt, rfl, mv _ _ upd_same⟩
        · rintro H9 ⟨s9, acc9, q9, a9⟩
          rw [List.take_of_length_le (by rw [List.length_map]; exact Nat.le_refl _)] at a9
          have fq9 := s9 _ _ fq8
          have hDf : D3 ≠ fo := fun e => by
            rw [e, fq8] at hD3
            cases hD3
          have la := a9.len
          have lz := az.len
          have lu := upsOf_len s L
          have lf : (((ss.take i).map fun s => upsOf s (Ls s)).flatten).length ≤ 1000 := by
            have h1 := flat_len (ss := ss.take i) (Ls := Ls) fun x hx => (hLs x hx).len
            have h2 : ((ss.take i).map Int.toNat).sum ≤ B := (ub (ss.take i) (nd2.sublist (List.take_sublist _ _)) fun x hx => by
              obtain ⟨t, ht, e⟩ := (hss x).mp (List.mem_of_mem_take hx)
              exact ⟨t, (hT t).mp ht, e⟩).1
            omega
          refine ⟨fo, D3, zs, acc9, rfl, rfl, fq9, q9, by have := sizeLine_eq; omega, ?_⟩
          have s69 := (s7.trans s8).trans s9
          have mv : ∀ c ys, H9 c = some (.tup ys) → (upd H9 fo (.lst (zs ++ acc9))) c = some (.tup ys) := fun c ys z => by
            rw [upd_ne (foT fq9 z)]
            exact z
          refine ⟨_, _, rfl, fun c o z n => ?_, zs ++ acc9, fun x => if x = s then L else Ls x, upd_same, ?_, fun x hx => ?_⟩
          · rw [upd_ne n]
            exact s69 _ _ (m6 _ _ z n)
          · rw [htk, List.map_append, List.flatten_append]
            refine All2.app ?_ ?_
            · have e : (ss.take i).map (fun x => upsOf x (if x = s then L else Ls x)) = (ss.take i).map fun x => upsOf x (Ls x) := List.map_congr_left fun x hx => by rw [if_neg (fun z => hnew (by rw [← z]; exact hx))]
              rw [e]
              exact All2.mono (fun _ _ ⟨x, e, z⟩ => ⟨x, e, mv _ _ (s69 _ _ z)⟩) az
            · show All2 _ _ (([s].map fun x => upsOf x (if x = s then L else Ls x)).flatten)
              rw [List.map_singleton, if_pos rfl]
              simp only [List.flatten_cons, List.flatten_nil, List.append_nil]
              exact All2.mono (fun _ _ ⟨x, e, z⟩ => ⟨x, e, mv _ _ z⟩) a9
          · rw [htk] at hx
            show Lst x (prsOf T0 x) (if x = s then L else Ls x)
            rcases List.mem_append.mp hx with hx | hx
            · rw [if_neg (fun z => hnew (by rw [← z]; exact hx))]
              exact hLs x hx
            · rw [List.mem_singleton.mp hx, if_pos rfl]
              exact hL
    · rintro σ H6 ⟨x4, x5, rfl, m6, zs, Ls, fq6, az, hLs⟩
      rw [List.length_map, List.take_length] at az hLs
      refine ⟨_, rfl, k fo _ zs T0 H6 (fun c o z => m6 _ _ (s05 _ _ z) (ne_of_none z hfo0)) fq6 az ?_ hT (upS_of hss (fun s hs => (pos s hs).1) hLs)⟩
      have h1 := flat_len (ss := ss) (Ls := Ls) fun x hx => (hLs x hx).len
      omega
end
end Wd
end
section
set_option Elab.async false
set_option linter.all false
set_option maxRecDepth 100000
set_option maxHeartbeats 2000000
set_option pp.maxSteps 900
/-! ### all_sums -/
namespace Wd
open PySem PySem.Spec PyProof.Rows L2 Wt TL NumText
theorem keys_put {κ : Type} [DecidableEq κ] (kvs : List (κ × V)) (k : κ) (v : V) : (k ∈ kvs.map (·.1) ∧ (putK kvs k v).map (·.1) = kvs.map (·.1)) ∨ (putK kvs k v).map (·.1) = kvs.map (·.1) ++ [k] := by
  unfold putK
  by_cases h : (kvs.any fun kv => decide (kv.1 = k)) = true
  · rw [if_pos h]
    obtain ⟨kv, hm, e⟩ := List.any_eq_true.mp h
    refine .inl ⟨List.mem_map.mpr ⟨kv, hm, of_decide_eq_true e⟩, ?_⟩
    rw [List.map_map]
    refine List.map_congr_left fun x _ => ?_
    show (if x.1 = k then (x.1, v) else x).1 = x.1
    split <;> rfl
  · rw [if_neg h, List.map_append]
    exact .inr rfl
instance (m y : Pc) : Decidable (plainC m y) := by
  unfold plainC
  exact inferInstance
theorem viaT {t : TT} {σ : L2.St} {H : Hp} {Q : Bool → Hp → Prop} (W : Bool → Hp → Prop) (h : ∀ Q' : Bool → Hp → Prop, (∀ b H', W b H' → Q' b H') → t σ H Q') (k : ∀ b H', W b H' → Q b H') : t σ H Q := h Q k
def spAll : Sp := fun vs H Q _ => ∃ (a b : Addr) (xs ys : List V) (ps qs : List Pc) (B B' : Nat), vs = [.ref a, .ref b] ∧ H a = some (.tup xs) ∧ H b = some (.tup ys) ∧ PcsA H xs ps ∧ PcsA H ys qs ∧ SumOk ps ∧ SumOk qs ∧ UB (pairsU ps qs) B ∧ UB (pairsU (ps.map Pc.tn) (qs.map Pc.tn)) B' ∧ B ≤ 1000 ∧ B' ≤ 1000 ∧
  ∀ u pl us ds zs T T' H', Same H H' → H' u = some (.lst zs) → PcsA H' zs (allL pl us ds) → PlS ps qs pl → pl.length ≤ ps.length * qs.length → us.length ≤ B → ds.length ≤ B' → (∀ t, t ∈ T ↔ t ∈ pairsU ps qs) → UpS T us → (∀ t, t ∈ T' ↔ t ∈ pairsU (ps.map Pc.tn) (qs.map Pc.tn)) → UpS T' ds → Q (.ref u) H'
theorem SumOk.tn {ps : List Pc} (h : SumOk ps) : SumOk (ps.map Pc.tn) := by
  refine ⟨by rw [List.length_map]; exact h.1, fun p hp => ?_⟩
  obtain ⟨q, hq, rfl⟩ := List.mem_map.mp hp
  obtain ⟨h1, h2, h3, h4⟩ := h.2 q hq
  refine ⟨Pc.tn_good h1, ?_, ?_, fun n => h4 (fun e => n (Kd.tn_one.mpr e))⟩
  · show -100000000 ≤ -q.a
    omega
  · show -q.a ≤ 100000000
    omega
section
variable {P : Program} {w : World} {K : PySem.W.Frag} {mg : Str → Option Value} {base : Heap} {f : Addr} {fd : FuncData}
structure DAll (P : Program) (w : World) (K : PySem.W.Frag) (mg : Str → Option Value) (base : Heap) : Prop where
  upward_sums : Df P w K mg base CX0 2 "_upward_sums" ["one", "other"] spUp
  turned : Df P w K mg base CX0 1 "turned" ["piece"] spTurned
  plain_sum : Df P w K mg base CX0 1 "_plain_sum" ["mine", "yours"] spPlain
theorem scAll : FnScope ["one", "other", "upward", "downward", "found", "mine", "yours", "piece"] ["one", "other"] (defScope (top i_all_sums)) := ⟨rfl, rfl, rfl, by decide +kernel, rfl, by decide +kernel, by decide +kernel⟩
theorem ok_all (F : FnG K "all_sums" i_all_sums f fd) (T : Tx K mg) (D : DAll P w K mg base) : FnOk P w K mg base CX0 3 f fd ["one", "other"] spAll := by
  refine F.ok scAll (fun vs H Q E h => ?_) (fun cdv A outer s H vs Q E hr h => ?_)
  · obtain ⟨a, b, xs, ys, ps, qs, B, B', rfl, _⟩ := h
    rfl
  · obtain ⟨a, b, xs, ys, ps, qs, B, B', rfl, hx, hy, ax, ay, okp, okq, ub, ub', hB, hB', k⟩ := h
    have hu := hu_of hr
    have lx := ax.len
    have ly := ay.len
    have np := okp.1
    have nq := okq.1
    refine ⟨_, PSs.nox (pss_cons (ps_set (i := 2) scAll.nd rfl (Or.inl rfl) (pe_cd D.upward_sums (hr.mono (by decide)) pass0 (pa_cons (pv 0) (pa_cons (pv 1) pa_nil))))
        (pss_cons (ps_set (i := 3) scAll.nd rfl (Or.inl rfl) (pe_cd D.upward_sums (hr.mono (by decide)) pass0 (pa_cons (pe_lc (own := [("piece", 7)]) rfl scAll.nd (pi_tup (pv 0)) (blkOk_by (own := [("piece", 7)]) (N := ["one", "other", "upward", "downward", "found", "mine", "yours", "piece"]) (sc := defScope (top i_all_sums)) (by decide +kernel)) (fun _ _ _ _ _ => (pg_name (i := 7) scAll.nd rfl (Or.inl rfl))) (fun _ _ _ _ _ => pts_nil) (fun _ _ _ _ _ => (pe_cd D.turned (hr.mono (by decide)) pass0 (pa_cons (pv 7) pa_nil)))) (pa_cons (pe_lc (own := [("piece", 7)]) rfl scAll.nd (pi_tup (pv 1)) (blkOk_by (own := [("piece", 7)]) (N := ["one", "other", "upward", "downward", "found", "mine", "yours", "piece"]) (sc := defScope (top i_all_sums)) (by decide +kernel)) (fun _ _ _ _ _ => (pg_name (i := 7) scAll.nd rfl (Or.inl rfl))) (fun _ _ _ _ _ => pts_nil) (fun _ _ _ _ _ => (pe_cd D.turned (hr.mono (by decide)) pass0 (pa_cons (pv 7) pa_nil)))) pa_nil))))
        (pss_cons (ps_set (i := 4) scAll.nd rfl (Or.inl rfl) pe_dnewT)
        (pss_cons (ps_for PassesOwn.never rfl (pi_tup (pv 0)) (pg_name (i := 5) scAll.nd rfl (Or.inl rfl)) (pss_one (ps_for PassesOwn.never rfl (pi_tup (pv 1)) (pg_name (i := 6) scAll.nd rfl (Or.inl rfl)) (pss_one (ps_if (PW.pt (pw_or (pt_cmpR op_ne (pe_ix ix_tup (pv 5) pe_int (fun _ _ => rfl)) (pe_ix ix_tup (pv 6) pe_int (fun _ _ => rfl)) (nomark _)) (pw_or1 (pt_cmpR op_notIn_seq (pe_ix ix_tup (pv 5) pe_int (fun _ _ => rfl)) (pe_tup (pa_cons pe_str (pa_cons pe_str pa_nil))) (by rfl))))) (pss_one (ps_dput hu (pv 4) (pe_cd D.plain_sum (hr.mono (by decide)) pass0 (pa_cons (pv 5) (pa_cons (pv 6) pa_nil))) pe_bl rfl)) pss_nil)))))
        (pss_one (ps_ret (pe_lst (StX.pa_star (pe_callTy (call_list_dT rfl) (by rfl) T.list (by decide +kernel) (pa_cons (pv 4) pa_nil)) (StX.pa_star (pv 2) (StX.pa_star (pe_lc (own := [("piece", 7)]) rfl scAll.nd (pi_list (pv 3)) (blkOk_by (own := [("piece", 7)]) (N := ["one", "other", "upward", "downward", "found", "mine", "yours", "piece"]) (sc := defScope (top i_all_sums)) (by decide +kernel)) (fun _ _ _ _ _ => (pg_name (i := 7) scAll.nd rfl (Or.inl rfl))) (fun _ _ _ _ _ => pts_nil) (fun _ _ _ _ _ => (pe_cd D.turned (hr.mono (by decide)) pass0 (pa_cons (pv 7) pa_nil)))) pa_nil)))))))))), ?_⟩
    refine ⟨_, rfl, _, rfl, a, b, xs, ys, ps, qs, B, rfl, .inr hx, .inr hy, ax, ay, okp, okq, ub, hB, fun u1 us z1 T1 H1 s1 q1 a1 lu1 hT1 hU1 => ?_⟩
    have tup_keep : ∀ {H0 H' : Hp} {l : Addr} {acc zs : List V} {rs : List Pc}, H0 l = some (.lst acc) → H' = upd H0 l (.lst zs) → PcsA H0 acc rs → PcsA H' acc rs := fun {H0 H' l acc zs rs} h1 h2 h3 => All2.mono (fun _ _ ⟨c, e, z⟩ => ⟨c, e, by rw [h2, upd_ne (fun e => by rw [e, h1] at z; cases z)]; exact z⟩) h3
    refine ⟨_, rfl, a, rfl, ⟨xs, SqT.of (s1 _ _ hx)⟩, fun l1 hl1 => lc_tup (xs := xs) (fun i H' => Same H1 H' ∧ ∃ acc, H' l1 = some (.lst acc) ∧ PcsA H' acc ((ps.take i).map Pc.tn)) ⟨same_upd hl1, [], upd_same, .nil⟩ (fun i H' _ z => SqT.of (z.1 _ _ (s1 _ _ hx))) ?_ ?_⟩
    · rintro i v H2 hvx ⟨s2, acc, q, al⟩
      obtain ⟨p, hp, pa, rfl, pq⟩ := ax.at hvx
      have htk : ps.take (i + 1) = ps.take i ++ [p] := by rw [List.take_add_one, hp]; rfl
      refine ⟨rfl, iteT (B := False) ⟨_, rfl, pa, p, rfl, s2 _ _ (s1 _ _ pq), fun r H3 s3 rq => ?_⟩⟩
      have q3 := s3 _ _ q
      have hl := al.len
      rw [List.length_map, List.length_take] at hl
      refine ⟨acc, q3, by have := sizeLine_eq; omega, fun c o z => ?_, _, upd_same, ?_⟩
      · rw [upd_ne (ne_of_none z hl1)]
        exact s3 _ _ (s2 _ _ z)
      · rw [htk, List.map_append]
        exact (tup_keep q3 rfl (al.same s3)).snoc ⟨r, rfl, by rw [upd_ne (fun e => by rw [e, q3] at rq; cases rq)]; exact rq⟩
    rintro H2 ⟨s2, acc1, p1, al1⟩
    rw [lx, List.take_length] at al1
    have s02 := s1.trans s2
    refine ⟨_, rfl, b, rfl, ⟨ys, SqT.of (s02 _ _ hy)⟩, fun l2 hl2 => lc_tup (xs := ys) (fun i H' => Same H2 H' ∧ ∃ acc, H' l2 = some (.lst acc) ∧ PcsA H' acc ((qs.take i).map Pc.tn)) ⟨same_upd hl2, [], upd_same, .nil⟩ (fun i H' _ z => SqT.of (z.1 _ _ (s02 _ _ hy))) ?_ ?_⟩
    · rintro i v H3 hvx ⟨s3, acc, q, al⟩
      obtain ⟨p, hp, pa, rfl, pq⟩ := ay.at hvx
      have htk : qs.take (i + 1) = qs.take i ++ [p] := by rw [List.take_add_one, hp]; rfl
      refine ⟨rfl, iteT (B := False) ⟨_, rfl, pa, p, rfl, s3 _ _ (s02 _ _ pq), fun r H4 s4 rq => ?_⟩⟩
      have q4 := s4 _ _ q
      have hl := al.len
      rw [List.length_map, List.length_take] at hl
      refine ⟨acc, q4, by have := sizeLine_eq; omega, fun c o z => ?_, _, upd_same, ?_⟩
      · rw [upd_ne (ne_of_none z hl2)]
        exact s4 _ _ (s3 _ _ z)
      · rw [htk, List.map_append]
        exact (tup_keep q4 rfl (al.same s4)).snoc ⟨r, rfl, by rw [upd_ne (fun e => by rw [e, q4] at rq; cases rq)]; exact rq⟩
    rintro H3 ⟨s3, acc2, p2, al2⟩
    rw [ly, List.take_length] at al2
    refine ⟨l1, l2, acc1, acc2, _, _, B', rfl, .inl (s3 _ _ p1), .inl p2, al1.same s3, al2, okp.tn, okq.tn, ub', hB', fun u2 ds z2 T2 H4 s4 q2 a2 l2' hT2 hU2 => ?_⟩
    have s24 := s3.trans s4
    have q14 := s24 _ _ (s2 _ _ q1)
    have a14 := (a1.same s2).same s24
    have s04 := s02.trans s24
    clear al1 al2 p1 p2 s2 s3 s4 s24 s02 hl1 hl2 a1 q1 s1
    dsimp only [tNext, gName]
    intro fo hfo
    have s5 := same_upd (o := HO.dT []) hfo
    have fq : (upd H4 fo (.dT [])) fo = some (.dT []) := upd_same
    have hfo0 : H fo = none := s04.free hfo
    have u1f := ne_of_none q14 hfo
    have u2f := ne_of_none q2 hfo
    -- the plain sums
    have dT_keep : ∀ {H' : Hp} {c : Addr} {kvs : List (List Key × V)} {ys : List V}, H' fo = some (.dT kvs) → H' c = some (.tup ys) → c ≠ fo := fun h1 h2 e => by
      rw [e, h1] at h2
      cases h2
    refine ⟨_, rfl, a, rfl, ⟨xs, SqT.of (s5 _ _ (s04 _ _ hx))⟩, for_tup (xs := xs) (fun i σ H' => ∃ (x5 x6 : Option V), σ = [some (.ref a), some (.ref b), some (.ref u1), some (.ref u2), some (.ref fo), x5, x6, none] ∧ (∀ c o, H4 c = some o → c ≠ fo → H' c = some o) ∧ ∃ (kvs : List (List Key × V)) (pl : List Pc), H' fo = some (.dT kvs) ∧ kvs.map (·.1) = pl.map Pc.key ∧ pl.length ≤ i * qs.length ∧ PlS (ps.take i) qs pl)
      ⟨_, _, rfl, fun c o z _ => s5 _ _ z, [], [], fq, rfl, by simp, ⟨fun p h => absurd h List.not_mem_nil, fun p h => absurd h (by simp)⟩⟩ (fun i σ H' _ z => ?_) ?_ ?_⟩
    · obtain ⟨_, _, _, z, _⟩ := z
      exact SqT.of (z _ _ (s04 _ _ hx) (ne_of_none (s04 _ _ hx) hfo))
    · rintro i v σ H5 hvx ⟨x5, x6, rfl, m5, kvs, pl, fq5, hk, hl, hpl⟩
      obtain ⟨p, hp, pa, rfl, pq⟩ := ax.at hvx
      have htk : ps.take (i + 1) = ps.take i ++ [p] := by rw [List.take_add_one, hp]; rfl
      have pq4 := s04 _ _ pq
      have nb := ne_of_none (s04 _ _ hy) hfo
      refine ⟨_, rfl, b, rfl, ⟨ys, SqT.of (m5 _ _ (s04 _ _ hy) nb)⟩, for_tup (xs := ys) (fun j σ H' => ∃ (x6 : Option V), σ = [some (.ref a), some (.ref b), some (.ref u1), some (.ref u2), some (.ref fo), some (.ref pa), x6, none] ∧ (∀ c o, H4 c = some o → c ≠ fo → H' c = some o) ∧ ∃ (kvs : List (List Key × V)) (pl : List Pc), H' fo = some (.dT kvs) ∧ kvs.map (·.1) = pl.map Pc.key ∧ pl.length ≤ i * qs.length + j ∧ (∀ r ∈ pl, ∃ m ∈ ps.take (i + 1), ∃ y ∈ qs, plainC m y ∧ r.key = (plainS m y).key) ∧ (∀ m ∈ ps.take i, ∀ y ∈ qs, plainC m y → ∃ r ∈ pl, r.key = (plainS m y).key) ∧ ∀ y ∈ qs.take j, plainC p y → ∃ r ∈ pl, r.key = (plainS p y).key)
        ⟨_, rfl, m5, kvs, pl, fq5, hk, by omega, fun r hr => ?_, hpl.co, fun y h => absurd h (by simp)⟩ (fun j σ H' _ z => ?_) ?_ ?_⟩
      · obtain ⟨m, hm, y, hy, z⟩ := hpl.so r hr
        exact ⟨m, by rw [htk]; exact List.mem_append_left _ hm, y, hy, z⟩
      · obtain ⟨_, _, z, _⟩ := z
        exact SqT.of (z _ _ (s04 _ _ hy) nb)
      · rintro j v σ H6 hvy ⟨x6, rfl, m6, kvs2, pl2, fq6, hk2, hl2, so2, co2, cc2⟩
        obtain ⟨y, hyq, ya, rfl, yq⟩ := ay.at hvy
        have htj : qs.take (j + 1) = qs.take j ++ [y] := by rw [List.take_add_one, hyq]; rfl
        have yq4 := s04 _ _ yq
        have pq6 := m6 _ _ pq4 (ne_of_none pq4 hfo)
        have yq6 := m6 _ _ yq4 (ne_of_none yq4 hfo)
        have hpm := List.mem_of_getElem? hp
        have hym := List.mem_of_getElem? hyq
        have no : ¬ plainC p y → ∃ (x6 : Option V), [some (V.ref a), some (.ref b), some (.ref u1), some (.ref u2), some (.ref fo), some (.ref pa), some (.ref ya), none] = [some (V.ref a), some (.ref b), some (.ref u1), some (.ref u2), some (.ref fo), some (.ref pa), x6, none] ∧ (∀ c o, H4 c = some o → c ≠ fo → H6 c = some o) ∧ ∃ (kvs : List (List Key × V)) (pl : List Pc), H6 fo = some (.dT kvs) ∧ kvs.map (·.1) = pl.map Pc.key ∧ pl.length ≤ i * qs.length + (j + 1) ∧ (∀ r ∈ pl, ∃ m ∈ ps.take (i + 1), ∃ y ∈ qs, plainC m y ∧ r.key = (plainS m y).key) ∧ (∀ m ∈ ps.take i, ∀ y ∈ qs, plainC m y → ∃ r ∈ pl, r.key = (plainS m y).key) ∧ ∀ y ∈ qs.take (j + 1), plainC p y → ∃ r ∈ pl, r.key = (plainS p y).key := fun nc => by
          refine ⟨_, rfl, m6, kvs2, pl2, fq6, hk2, by omega, so2, co2, fun z hz c => ?_⟩
          rw [htj] at hz
          rcases List.mem_append.mp hz with hz | hz
          · exact cc2 z hz c
          · rw [List.mem_singleton.mp hz] at c
            exact absurd c nc
        show tOr _ _ _ _ _
        refine viaT (W := fun b H' => Same H6 H' ∧ b = decide (plainC p y)) (fun Q' hQ => ?_) (fun bb H7 wq => ?_)
        · refine ⟨_, rfl, pa, _, _, _, rfl, rfl, SqT.of pq6, p.at0, _, rfl, ya, _, _, _, rfl, rfl, SqT.of yq6, y.at0, rfl, _, rfl, ?_⟩
          by_cases e : p.k = y.k
          · have e1 : (!decide (V.str p.k.w = V.str y.k.w)) = false := by rw [e, decide_eq_true rfl]; rfl
            refine ifN e1 ⟨_, rfl, pa, _, _, _, rfl, rfl, SqT.of pq6, p.at0, (by show 2 ≤ sizeLine; decide), fun t1 ht1 => ?_⟩
            refine ⟨t1, _, rfl, .inr (SqT.of upd_same), rfl, rfl, _, rfl, hQ _ _ ⟨same_upd ht1, ?_⟩⟩
            rw [if_pos rfl]
            have ec : plainC p y ↔ (p.k ≠ .up ∧ p.k ≠ .dn) := by
              unfold plainC
              exact ⟨fun h => h.elim (fun n => absurd e n) id, .inr⟩
            by_cases c : plainC p y
            · rw [decide_eq_true c]
              have z := ec.mp c
              revert z
              generalize p.k = x
              cases x <;> decide
            · rw [decide_eq_false c]
              have z := fun h => c (ec.mpr h)
              revert z
              generalize p.k = x
              cases x <;> decide
          · have e1 : (!decide (V.str p.k.w = V.str y.k.w)) = true := by rw [decide_eq_false fun z => e (Kd.w_inj (V.str.inj z))]; rfl
            exact ifB e1 (hQ _ _ ⟨Same.refl _, (decide_eq_true (.inl e)).symm⟩)
        obtain ⟨s7, rfl⟩ := wq
        have m7 : ∀ c o, H4 c = some o → c ≠ fo → H7 c = some o := fun c o z n => s7 _ _ (m6 _ _ z n)
        have fq7 := s7 _ _ fq6
        by_cases c : plainC p y
        · refine ifB (decide_eq_true c) ⟨_, rfl, _, rfl, _, rfl, pa, ya, p, y, rfl, s7 _ _ pq6, s7 _ _ yq6, (okp.2 p hpm).1, (okq.2 y hym).1, fun r H8 s8 rq => ?_⟩
          have fq8 := s8 _ _ fq7
          have rq' : H8 r = some (.tup ((plainS p y).key.map kV)) := by rw [Pc.key_vals]; exact rq
          have kl : kvs2.length = pl2.length := by
            have := congrArg List.length hk2
            rw [List.length_map, List.length_map] at this
            exact this
          have big : pl2.length ≤ 100 := by
            have h1 : i < ps.length := (List.getElem?_eq_some_iff.mp hp).1
            have h2 : j < qs.length := (List.getElem?_eq_some_iff.mp hyq).1
            have := Nat.mul_le_mul (show i ≤ 7 by omega) nq
            omega
          refine ⟨fo, _, rfl, DPut.t fq8 rq' (by have := sizeLine_eq; omega), ?_⟩
          have fin : ∀ pl3 : List Pc, (putK kvs2 (plainS p y).key (V.bl true)).map (·.1) = pl3.map Pc.key → (∀ r ∈ pl3, r ∈ pl2 ∨ r = plainS p y) → (∀ r ∈ pl2, r ∈ pl3) → (∃ r ∈ pl3, r.key = (plainS p y).key) → pl3.length ≤ pl2.length + 1 → ∃ (x6 : Option V), [some (V.ref a), some (.ref b), some (.ref u1), some (.ref u2), some (.ref fo), some (.ref pa), some (.ref ya), none] = [some (V.ref a), some (.ref b), some (.ref u1), some (.ref u2), some (.ref fo), some (.ref pa), x6, none] ∧ (∀ c o, H4 c = some o → c ≠ fo → (upd H8 fo (.dT (putK kvs2 (plainS p y).key (V.bl true)))) c = some o) ∧ ∃ (kvs : List (List Key × V)) (pl : List Pc), (upd H8 fo (.dT (putK kvs2 (plainS p y).key (V.bl true)))) fo = some (.dT kvs) ∧ kvs.map (·.1) = pl.map Pc.key ∧ pl.length ≤ i * qs.length + (j + 1) ∧ (∀ r ∈ pl, ∃ m ∈ ps.take (i + 1), ∃ y ∈ qs, plainC m y ∧ r.key = (plainS m y).key) ∧ (∀ m ∈ ps.take i, ∀ y ∈ qs, plainC m y → ∃ r ∈ pl, r.key = (plainS m y).key) ∧ ∀ y ∈ qs.take (j + 1), plainC p y → ∃ r ∈ pl, r.key = (plainS p y).key := fun pl3 g1 g2 g3 g4 g5 => by
            refine ⟨_, rfl, fun c o z n => ?_, _, pl3, upd_same, g1, by omega, fun r hr => ?_, fun m hm y' hy' c' => ?_, fun y' hy' c' => ?_⟩
            · rw [upd_ne n]
              exact s8 _ _ (m7 _ _ z n)
            · rcases g2 r hr with h | rfl
              · exact so2 r h
              · exact ⟨p, by rw [htk]; exact List.mem_append_right _ List.mem_cons_self, y, hym, c, rfl⟩
            · obtain ⟨r, hr, e⟩ := co2 m hm y' hy' c'
              exact ⟨r, g3 r hr, e⟩
            · rw [htj] at hy'
              rcases List.mem_append.mp hy' with h | h
              · obtain ⟨r, hr, e⟩ := cc2 y' h c'
                exact ⟨r, g3 r hr, e⟩
              · rw [List.mem_singleton.mp h]
                exact g4
          rcases keys_put kvs2 (plainS p y).key (V.bl true) with ⟨g1, g2⟩ | g2
          · rw [hk2] at g1 g2
            obtain ⟨r0, hr0, er⟩ := List.mem_map.mp g1
            exact fin pl2 g2 (fun r h => .inl h) (fun r h => h) ⟨r0, hr0, er⟩ (by omega)
          · rw [hk2] at g2
            refine fin (pl2 ++ [plainS p y]) (by rw [g2, List.map_append]; rfl) (fun r h => ?_) (fun r h => List.mem_append_left _ h) ⟨_, List.mem_append_right _ List.mem_cons_self, rfl⟩ (by simp)
            rcases List.mem_append.mp h with h | h
            · exact .inl h
            · exact .inr (List.mem_singleton.mp h)
        · refine ifN (decide_eq_false c) ?_
          obtain ⟨x6', e1, _, kvs3, pl3, g1, g2, g3, g4, g5, g6⟩ := no c
          exact ⟨x6', e1, m7, kvs3, pl3, s7 _ _ g1, g2, g3, g4, g5, g6⟩
      · rintro σ H6 ⟨x6, rfl, m6, kvs2, pl2, fq6, hk2, hl2, so2, co2, cc2⟩
        rw [ly, List.take_length] at cc2
        refine ⟨_, _, rfl, m6, kvs2, pl2, fq6, hk2, ?_, ⟨so2, fun m hm y hy c => ?_⟩⟩
        · rw [Nat.add_mul, Nat.one_mul]
          omega
        · rw [htk] at hm
          rcases List.mem_append.mp hm with h | h
          · exact co2 m h y hy c
          · rw [List.mem_singleton.mp h] at c ⊢
            exact cc2 y hy c
    · rintro σ H5 ⟨x5, x6, rfl, m5, kvs, pl, fq5, hk, hl, hpl⟩
      rw [lx, List.take_length] at hpl
      rw [lx] at hl
      have h49 : pl.length ≤ 49 := by
        have := Nat.mul_le_mul np nq
        omega
      refine ⟨_, rfl, fo, kvs, rfl, .inl fq5, fun ld bs hld isk => ?_⟩
      have s6 := same_upd (o := HO.lst (bs.map V.ref)) hld
      have lq : (upd H5 ld (.lst (bs.map V.ref))) ld = some (.lst (bs.map V.ref)) := upd_same
      have az : PcsA H5 (bs.map V.ref) pl := by
        have go : ∀ (kvs : List (List Key × V)) (bs : List Addr) (pl : List Pc), IsKeys H5 kvs bs → kvs.map (·.1) = pl.map Pc.key → PcsA H5 (bs.map V.ref) pl := fun kvs bs pl i => by
          unfold IsKeys at i
          induction i generalizing pl with
          | nil =>
            intro e
            cases pl with
            | nil => exact .nil
            | cons p r => cases e
          | cons h t ih =>
            intro e
            cases pl with
            | nil => cases e
            | cons p r =>
              rw [List.map_cons, List.map_cons] at e
              injection e with e1 e2
              refine .cons ⟨_, rfl, ?_⟩ (ih r e2)
              rw [h, e1, Pc.key_vals]
        exact go kvs bs pl isk hk
      have az6 := az.same s6
      have q16 := s6 _ _ (m5 _ _ q14 u1f)
      have q26 := s6 _ _ (m5 _ _ q2 u2f)
      have mT : ∀ c ys, H4 c = some (.tup ys) → (upd H5 ld (.lst (bs.map V.ref))) c = some (.tup ys) := fun c ys z => s6 _ _ (m5 _ _ z (ne_of_none z hfo))
      have a16 : PcsA (upd H5 ld (.lst (bs.map V.ref))) z1 us := All2.mono (fun _ _ ⟨c, e, z⟩ => ⟨c, e, mT _ _ z⟩) a14
      have a26 : PcsA (upd H5 ld (.lst (bs.map V.ref))) z2 ds := All2.mono (fun _ _ ⟨c, e, z⟩ => ⟨c, e, mT _ _ z⟩) a2
      have s06 : Same H (upd H5 ld (.lst (bs.map V.ref))) := fun c o z => s6 _ _ (m5 _ _ (s04 _ _ z) (ne_of_none z hfo0))
      generalize upd H5 ld (.lst (bs.map V.ref)) = H6 at s6 lq az6 q16 q26 mT a16 a26 s06 ⊢
      refine ⟨ld, _, rfl, .inr (SqL.of lq), _, rfl, u1, _, rfl, .inr (SqL.of q16), ?_⟩
      have lz2 := a26.len
      refine ⟨_, rfl, u2, rfl, ⟨z2, SqL.of q26⟩, fun l3 hl3 => lc_list (xs := z2) (fun i H' => Same H6 H' ∧ ∃ acc, H' l3 = some (.lst acc) ∧ PcsA H' acc ((ds.take i).map Pc.tn)) ⟨same_upd hl3, [], upd_same, .nil⟩ (fun i H' _ z => SqL.of (z.1 _ _ q26)) ?_ ?_⟩
      · rintro i v H7 hvx ⟨s7, acc, q, al⟩
        obtain ⟨p, hp, pa, rfl, pq⟩ := a26.at hvx
        have htk : ds.take (i + 1) = ds.take i ++ [p] := by rw [List.take_add_one, hp]; rfl
        refine ⟨rfl, iteT (B := False) ⟨_, rfl, pa, p, rfl, s7 _ _ pq, fun r H8 s8 rq => ?_⟩⟩
        have q8 := s8 _ _ q
        have hl := al.len
        rw [List.length_map, List.length_take] at hl
        refine ⟨acc, q8, by have := sizeLine_eq; omega, fun c o z => ?_, _, upd_same, ?_⟩
        · rw [upd_ne (ne_of_none z hl3)]
          exact s8 _ _ (s7 _ _ z)
        · rw [htk, List.map_append]
          exact (tup_keep q8 rfl (al.same s8)).snoc ⟨r, rfl, by rw [upd_ne (fun e => by rw [e, q8] at rq; cases rq)]; exact rq⟩
      rintro H7 ⟨s7, acc3, p3, al3⟩
      rw [lz2, List.take_length] at al3
      have e1 := az6.len
      have e2 := a16.len
      have e3 := al3.len
      rw [List.length_map] at e1 e3
      refine ⟨l3, _, rfl, .inr (SqL.of p3), ?_, fun r hr0 => ?_⟩
      · simp only [List.length_append, List.length_nil, List.length_map]
        have := sizeLine_eq
        omega
      · refine k r pl us ds _ T1 T2 _ ((s06.trans s7).trans (same_upd hr0)) upd_same ?_ hpl hl lu1 l2' hT1 hU1 hT2 hU2
        refine PcsA.same ?_ (same_upd hr0)
        rw [List.append_nil]
        exact (az6.same s7).app ((a16.same s7).app al3)
end
end Wd
end
section
set_option Elab.async false
set_option linter.all false
set_option maxRecDepth 100000
set_option maxHeartbeats 2000000
set_option pp.maxSteps 900
/-! ### Days: what is told of a set -/
namespace Wd
open PySem PySem.Spec PyProof.Rows L2 Wt TL NumText
def spCont2 (K : PySem.W.Frag) : Sp := fun vs H Q _ => ∃ (a : Addr) (ps : List Pc) (v : V), vs = [.ref a, v] ∧ DayA K H a ps ∧ ((∃ d : Int, v = .int d ∧ ∀ H', Same H H' → Q (.bl (inPs ps d)) H') ∨ (IntB H v false ∧ ∀ H', Same H H' → Q (.bl false) H'))
def spGoes (K : PySem.W.Frag) (f : List Pc → Bool) : Sp := fun vs H Q _ => ∃ (a : Addr) (ps : List Pc), vs = [.ref a] ∧ DayA K H a ps ∧ ps.length ≤ 1000 ∧ ∀ H', Same H H' → Q (.bl (f ps)) H'
def spEndD (K : PySem.W.Frag) (f : List Pc → Option Int) : Sp := fun vs H Q _ => ∃ (a : Addr) (ps : List Pc), vs = [.ref a] ∧ DayA K H a ps ∧ ps.length ≤ 1000 ∧ ∀ H', Same H H' → Q (ovI (f ps)) H'
def leastS (ps : List Pc) : Option Int := if loS ps = true then none else minO (ps.map (·.a))
def greatS (ps : List Pc) : Option Int := if hiS ps = true then none else maxO (ps.map (·.a))
def spNext (K : PySem.W.Frag) (f : List Pc → Int → Option Int) : Sp := fun vs H Q _ => ∃ (a : Addr) (ps : List Pc) (low : Int), vs = [.ref a, .int low] ∧ DayA K H a ps ∧ ps.length ≤ 1000 ∧ ∀ H', Same H H' → Q (ovI (f ps low)) H'
theorem in_dnev (k : Kd) : inV (.str k.w) [.str "down", .str "every"] = (decide (k = .dn) || decide (k = .ev)) := by cases k <;> rfl
theorem in_upev (k : Kd) : inV (.str k.w) [.str "up", .str "every"] = (decide (k = .up) || decide (k = .ev)) := by cases k <;> rfl
section
variable {P : Program} {w : World} {K : PySem.W.Frag} {mg : Str → Option Value} {base : Heap} {f : Addr} {fd : FuncData}
theorem scCont2 : FnScope ["self", "day", "step"] ["self", "day"] (defScope (inClass (top i_Days) j_Days___contains__)) := ⟨rfl, rfl, rfl, by decide +kernel, rfl, by decide +kernel, by decide +kernel⟩
theorem ok_contains2 (F : FunD K "__contains__" "Days.__contains__" (defArgs (inClass (top i_Days) j_Days___contains__)) (defBody (inClass (top i_Days) j_Days___contains__)) (defScope (inClass (top i_Days) j_Days___contains__)) [] [] f fd) (T : Tx K mg) (D : DCon P w K mg base) :
    FnOk P w K mg base CX0 2 f fd ["self", "day"] (spCont2 K) := by
  refine F.ok scCont2 (fun vs H Q E h => ?_) (fun cdv A outer s H vs Q E hr h => ?_)
  · obtain ⟨a, ps, v, rfl, _⟩ := h
    rfl
  · obtain ⟨a, ps, v, rfl, da, h⟩ := h
    have hu := hu_of hr
    refine ⟨_, PSs.nox (pss_cons (ps_if (pt_not (pt_val (pe_cd D.is_integer (hr.mono (by decide)) pass0 (pa_cons (pv 1) pa_nil)))) (pss_one (ps_ret pe_bl)) pss_nil)
        (pss_one (ps_ret (pe_or (pe_cmp (pc_din hu (pv 1) (pe_fld (pv 0) rfl))) (pe_one (pe_callB (cr_any rfl) (by rfl) D.any (by decide +kernel) (pa_cons (pe_lc (own := [("step", 2)]) rfl scCont2.nd (pi_tup (pe_fld (pv 0) rfl)) (blkOk_by (own := [("step", 2)]) (N := ["self", "day", "step"]) (sc := defScope (inClass (top i_Days) j_Days___contains__)) (by decide +kernel)) (fun _ _ _ _ _ => (pg_name (i := 2) scCont2.nd rfl (Or.inl rfl))) (fun _ _ _ _ _ => pts_nil) (fun _ _ _ _ _ => (pe_md D.stepsOn (pv 0) T.cl (hr.mono (by decide)) pass0 (pa_cons (pv 1) (pa_cons (pv 2) pa_nil))))) pa_nil))))))), ?_⟩
    obtain ⟨dx, po, o, u, n, e, st, xs, okv, ns, h1, _, _, o1, vo, _, _, _, st1, hns, hnl, _⟩ := da.ex
    rcases h with ⟨d, rfl, k⟩ | ⟨hv, k⟩
    · have e2 := in_days hns d
      refine ⟨_, rfl, .int d, true, rfl, .int d, true, rfl, iteF ?_⟩
      refine ⟨_, rfl, _, rfl, a, _, dx, _, .ref o, rfl, h1, T.cl, T.n2, rfl, o, _, rfl, DGet.k (k := Sum.inl d) o1, _, rfl, ?_⟩
      rw [vo]
      cases hh : onesHas ps d with
      | true =>
        rw [hh] at e2
        rw [← e2] at k
        exact ifB rfl (k _ (Same.refl _))
      | false =>
        rw [hh, Bool.false_or] at e2
        refine ifN rfl ?_
        refine ⟨_, rfl, a, _, dx, _, .ref st, rfl, h1, T.cl, T.n6, rfl, st, rfl, ⟨_, SqT.of st1⟩, fun lB hlB => lc_tup (xs := ns.map V.int) (fun i H' => Same H H' ∧ H' lB = some (.lst (((ns.map (stepsOn ps d)).take i).map V.bl))) ⟨same_upd hlB, upd_same⟩ (fun i H' _ z => SqT.of (z.1 _ _ st1)) ?_ ?_⟩
        · rintro i x H2 hvx ⟨s2, q2⟩
          obtain ⟨m, hm, rfl⟩ : ∃ m, ns[i]? = some m ∧ V.int m = x := by
            rw [List.getElem?_map] at hvx
            exact Option.map_eq_some_iff.mp hvx
          obtain ⟨p, hp, pk, ps1⟩ := (hns m).mp (List.mem_of_getElem? hm)
          have hs1 : 1 ≤ m := ps1 ▸ da.gd p hp pk
          have hix := (List.getElem?_eq_some_iff.mp hm).1
          refine ⟨rfl, iteT (B := Same H H2 ∧ H2 lB = some (.lst (((ns.map (stepsOn ps d)).take (i + 1)).map V.bl))) ?_⟩
          refine ⟨_, rfl, a, dx, _, rfl, s2 _ _ h1, rfl, _, rfl, _, rfl, ?_⟩
          refine ⟨a, ps, d, m, rfl, da.same s2, hs1, fun H3 s3 => ?_⟩
          refine ⟨_, s3 _ _ q2, by rw [List.length_map, List.length_take, List.length_map, sizeLine_eq]; omega, fun c o zz => ?_, ?_⟩
          · rw [upd_ne (ne_of_none zz hlB)]
            exact s3 _ _ (s2 _ _ zz)
          · rw [upd_same, List.take_add_one, List.getElem?_map, hm, List.map_append]
            rfl
        · rintro H2 ⟨s2, q2⟩
          rw [List.length_map, List.take_of_length_le (by rw [List.length_map]; exact Nat.le_refl _)] at q2
          refine ⟨lB, _, rfl, SqL.of q2, ?_⟩
          have e3 : (ns.map (stepsOn ps d)).any id = ns.any (stepsOn ps d) := by rw [List.any_map]; rfl
          rw [e3, e2]
          exact k _ s2
    · exact ⟨_, rfl, v, false, rfl, hv, false, rfl, iteT (k _ (Same.refl _))⟩
theorem scGoesD : FnScope ["self", "piece"] ["self"] (defScope (inClass (top i_Days) j_Days_goes_down)) := ⟨rfl, rfl, rfl, by decide +kernel, rfl, by decide +kernel, by decide +kernel⟩
theorem pr_goesD (F : FunD K "goes_down" "Days.goes_down" (defArgs (inClass (top i_Days) j_Days_goes_down)) (defBody (inClass (top i_Days) j_Days_goes_down)) (defScope (inClass (top i_Days) j_Days_goes_down)) [] [] f fd) (T : Tx K mg) (D : DCon P w K mg base) :
    FnOk P w K mg base CX0 1 f fd ["self"] (spGoes K loS) := by
  refine F.ok scGoesD (fun vs H Q E h => ?_) (fun cdv A outer s H vs Q E hr h => ?_)
  · obtain ⟨a, ps, rfl, _⟩ := h
    rfl
  · obtain ⟨a, ps, rfl, da, hl, k⟩ := h
    refine ⟨_, PSs.nox (pss_one (ps_ret (pe_callB (cr_any rfl) (by rfl) D.any (by decide +kernel) (pa_cons (pe_lc (own := [("piece", 1)]) rfl scGoesD.nd (pi_tup (pe_fld (pv 0) rfl)) (blkOk_by (own := [("piece", 1)]) (N := ["self", "piece"]) (sc := defScope (inClass (top i_Days) j_Days_goes_down)) (by decide +kernel)) (fun _ _ _ _ _ => (pg_name (i := 1) scGoesD.nd rfl (Or.inl rfl))) (fun _ _ _ _ _ => pts_nil) (fun _ _ _ _ _ => (pe_cmpR (r := rIn K false) op_in_seq (pe_ix (r := rIxT K) ix_tup (pv 1) pe_int (fun _ _ => rfl)) (pe_tup (pa_cons pe_str (pa_cons pe_str pa_nil))) (by rfl)))) pa_nil)))), ?_⟩
    obtain ⟨dx, po, o, u, n, e, st, xs, okv, ns, h1, h2, h3, _, _, _, _, _, _, _, _⟩ := da.ex
    have hxl := h3.len
    refine ⟨_, rfl, a, _, dx, _, .ref po, rfl, h1, T.cl, T.n1, rfl, po, rfl, ⟨_, SqT.of h2⟩, fun lB hlB => lc_tup (xs := xs) (fun i H' => Same H H' ∧ H' lB = some (.lst (((ps.map fun p => decide (p.k = .dn) || decide (p.k = .ev)).take i).map V.bl))) ⟨same_upd hlB, upd_same⟩ (fun i H' _ z => SqT.of (z.1 _ _ h2)) ?_ ?_⟩
    · rintro i x H2 hvx ⟨s2, q2⟩
      obtain ⟨p, hp, pa, rfl, pq⟩ := h3.at hvx
      refine ⟨rfl, iteT (B := False) ?_⟩
      refine ⟨_, rfl, pa, _, _, _, rfl, rfl, SqT.of (s2 _ _ pq), p.at0, (by show 2 ≤ sizeLine; decide), fun t ht => ?_⟩
      have sT := same_upd (o := HO.tup [.str "down", .str "every"]) ht
      refine ⟨t, _, rfl, .inr (SqT.of upd_same), rfl, rfl, ?_⟩
      rw [if_neg Bool.false_ne_true, in_dnev]
      refine ⟨_, sT _ _ q2, by rw [List.length_map, List.length_take, List.length_map, sizeLine_eq]; omega, fun c o zz => ?_, ?_⟩
      · rw [upd_ne (ne_of_none zz hlB)]
        exact sT _ _ (s2 _ _ zz)
      · rw [upd_same, List.take_add_one, List.getElem?_map, hp, List.map_append]
        rfl
    · rintro H2 ⟨s2, q2⟩
      rw [List.take_of_length_le (by rw [List.length_map]; omega)] at q2
      refine ⟨lB, _, rfl, SqL.of q2, ?_⟩
      have e3 : (ps.map fun p => decide (p.k = .dn) || decide (p.k = .ev)).any id = loS ps := by rw [List.any_map]; rfl
      rw [e3]
      exact k _ s2
theorem scGoesU : FnScope ["self", "piece"] ["self"] (defScope (inClass (top i_Days) j_Days_goes_up)) := ⟨rfl, rfl, rfl, by decide +kernel, rfl, by decide +kernel, by decide +kernel⟩
theorem pr_goesU (F : FunD K "goes_up" "Days.goes_up" (defArgs (inClass (top i_Days) j_Days_goes_up)) (defBody (inClass (top i_Days) j_Days_goes_up)) (defScope (inClass (top i_Days) j_Days_goes_up)) [] [] f fd) (T : Tx K mg) (D : DCon P w K mg base) :
    FnOk P w K mg base CX0 1 f fd ["self"] (spGoes K hiS) := by
  refine F.ok scGoesU (fun vs H Q E h => ?_) (fun cdv A outer s H vs Q E hr h => ?_)
  · obtain ⟨a, ps, rfl, _⟩ := h
    rfl
  · obtain ⟨a, ps, rfl, da, hl, k⟩ := h
    refine ⟨_, PSs.nox (pss_one (ps_ret (pe_callB (cr_any rfl) (by rfl) D.any (by decide +kernel) (pa_cons (pe_lc (own := [("piece", 1)]) rfl scGoesU.nd (pi_tup (pe_fld (pv 0) rfl)) (blkOk_by (own := [("piece", 1)]) (N := ["self", "piece"]) (sc := defScope (inClass (top i_Days) j_Days_goes_up)) (by decide +kernel)) (fun _ _ _ _ _ => (pg_name (i := 1) scGoesU.nd rfl (Or.inl rfl))) (fun _ _ _ _ _ => pts_nil) (fun _ _ _ _ _ => (pe_cmpR (r := rIn K false) op_in_seq (pe_ix (r := rIxT K) ix_tup (pv 1) pe_int (fun _ _ => rfl)) (pe_tup (pa_cons pe_str (pa_cons pe_str pa_nil))) (by rfl)))) pa_nil)))), ?_⟩
    obtain ⟨dx, po, o, u, n, e, st, xs, okv, ns, h1, h2, h3, _, _, _, _, _, _, _, _⟩ := da.ex
    have hxl := h3.len
    refine ⟨_, rfl, a, _, dx, _, .ref po, rfl, h1, T.cl, T.n1, rfl, po, rfl, ⟨_, SqT.of h2⟩, fun lB hlB => lc_tup (xs := xs) (fun i H' => Same H H' ∧ H' lB = some (.lst (((ps.map fun p => decide (p.k = .up) || decide (p.k = .ev)).take i).map V.bl))) ⟨same_upd hlB, upd_same⟩ (fun i H' _ z => SqT.of (z.1 _ _ h2)) ?_ ?_⟩
    · rintro i x H2 hvx ⟨s2, q2⟩
      obtain ⟨p, hp, pa, rfl, pq⟩ := h3.at hvx
      refine ⟨rfl, iteT (B := False) ?_⟩
      refine ⟨_, rfl, pa, _, _, _, rfl, rfl, SqT.of (s2 _ _ pq), p.at0, (by show 2 ≤ sizeLine; decide), fun t ht => ?_⟩
      have sT := same_upd (o := HO.tup [.str "up", .str "every"]) ht
      refine ⟨t, _, rfl, .inr (SqT.of upd_same), rfl, rfl, ?_⟩
      rw [if_neg Bool.false_ne_true, in_upev]
      refine ⟨_, sT _ _ q2, by rw [List.length_map, List.length_take, List.length_map, sizeLine_eq]; omega, fun c o zz => ?_, ?_⟩
      · rw [upd_ne (ne_of_none zz hlB)]
        exact sT _ _ (s2 _ _ zz)
      · rw [upd_same, List.take_add_one, List.getElem?_map, hp, List.map_append]
        rfl
    · rintro H2 ⟨s2, q2⟩
      rw [List.take_of_length_le (by rw [List.length_map]; omega)] at q2
      refine ⟨lB, _, rfl, SqL.of q2, ?_⟩
      have e3 : (ps.map fun p => decide (p.k = .up) || decide (p.k = .ev)).any id = hiS ps := by rw [List.any_map]; rfl
      rw [e3]
      exact k _ s2
structure TmP (K : PySem.W.Frag) : Prop where
  gd : ∃ p g fd, PropOf K (He.ga K "Days") "goes_down" p g ∧ FunD K "goes_down" "Days.goes_down" (defArgs (inClass (top i_Days) j_Days_goes_down)) (defBody (inClass (top i_Days) j_Days_goes_down)) (defScope (inClass (top i_Days) j_Days_goes_down)) [] [] g fd
  gu : ∃ p g fd, PropOf K (He.ga K "Days") "goes_up" p g ∧ FunD K "goes_up" "Days.goes_up" (defArgs (inClass (top i_Days) j_Days_goes_up)) (defBody (inClass (top i_Days) j_Days_goes_up)) (defScope (inClass (top i_Days) j_Days_goes_up)) [] [] g fd
  le : ∃ p g fd, PropOf K (He.ga K "Days") "least" p g ∧ FunD K "least" "Days.least" (defArgs (inClass (top i_Days) j_Days_least)) (defBody (inClass (top i_Days) j_Days_least)) (defScope (inClass (top i_Days) j_Days_least)) [] [] g fd
  gr : ∃ p g fd, PropOf K (He.ga K "Days") "greatest" p g ∧ FunD K "greatest" "Days.greatest" (defArgs (inClass (top i_Days) j_Days_greatest)) (defBody (inClass (top i_Days) j_Days_greatest)) (defScope (inClass (top i_Days) j_Days_greatest)) [] [] g fd
/-- a property of Days -/
def PropA (P : Program) (w : World) (K : PySem.W.Frag) (mg : Str → Option Value) (base : Heap) (m : Str) (n : Nat) (sp : Sp) : Prop := ∃ p g fd, PropOf K (He.ga K "Days") m p g ∧ FnOk P w K mg base CX0 n g fd ["self"] sp ∧ Binds K fd ["self"] []
theorem TmP.goesD (h : TmP K) (T : Tx K mg) (D : DCon P w K mg base) : PropA P w K mg base "goes_down" 1 (spGoes K loS) := by
  obtain ⟨p, g, fd, hp, F⟩ := h.gd
  exact ⟨p, g, fd, hp, pr_goesD F T D, F.bindsN fun _ _ _ _ _ _ us hl => match us, hl with | [_], _ => rfl⟩
theorem TmP.goesU (h : TmP K) (T : Tx K mg) (D : DCon P w K mg base) : PropA P w K mg base "goes_up" 1 (spGoes K hiS) := by
  obtain ⟨p, g, fd, hp, F⟩ := h.gu
  exact ⟨p, g, fd, hp, pr_goesU F T D, F.bindsN fun _ _ _ _ _ _ us hl => match us, hl with | [_], _ => rfl⟩
theorem scLeastD : FnScope ["self", "piece"] ["self"] (defScope (inClass (top i_Days) j_Days_least)) := ⟨rfl, rfl, rfl, by decide +kernel, rfl, by decide +kernel, by decide +kernel⟩
theorem pr_least (F : FunD K "least" "Days.least" (defArgs (inClass (top i_Days) j_Days_least)) (defBody (inClass (top i_Days) j_Days_least)) (defScope (inClass (top i_Days) j_Days_least)) [] [] f fd) (T : Tx K mg) (G : TmP K) (D : DCon P w K mg base) :
    FnOk P w K mg base CX0 3 f fd ["self"] (spEndD K leastS) := by
  refine F.ok scLeastD (fun vs H Q E h => ?_) (fun cdv A outer s H vs Q E hr h => ?_)
  · obtain ⟨a, ps, rfl, _⟩ := h
    rfl
  · obtain ⟨a, ps, rfl, da, hl, k⟩ := h
    have hu := hu_of hr
    obtain ⟨pp, pg, pf, hpr, hpF, hpb⟩ := G.goesD (P := P) (w := w) (base := base) T D
    refine ⟨_, PSs.nox (pss_cons (ps_if (pt_val (pe_prop (pv 0) T.cl hpr hpF (hr.mono (by decide)) hpb .nil pass0 rfl)) (pss_one (ps_ret pe_non)) pss_nil)
        (pss_one (ps_ret (pe_callBK (call_minN rfl hu) (by rfl) T.min (by decide +kernel) (pa_cons (pe_lc (own := [("piece", 1)]) rfl scLeastD.nd (pi_tup (pe_fld (pv 0) rfl)) (blkOk_by (own := [("piece", 1)]) (N := ["self", "piece"]) (sc := defScope (inClass (top i_Days) j_Days_least)) (by decide +kernel)) (fun _ _ _ _ _ => (pg_name (i := 1) scLeastD.nd rfl (Or.inl rfl))) (fun _ _ _ _ _ => pts_nil) (fun _ _ _ _ _ => (pe_ix (r := rIxT K) ix_tup (pv 1) pe_int (fun _ _ => rfl)))) pa_nil) (pk_cons pe_non pk_nil))))), ?_⟩
    obtain ⟨dx, po, o, u, n, e, st, xs, okv, ns, h1, h2, h3, _, _, _, _, _, _, _, _⟩ := da.ex
    have hxl := h3.len
    refine ⟨_, rfl, a, dx, _, rfl, h1, a, ps, rfl, da, hl, fun H1 s1 => ?_⟩
    refine ⟨_, rfl, ?_⟩
    have k1 := fun H' z => k H' (s1.trans z)
    cases hb : loS ps with
    | true =>
      have e0 : leastS ps = none := by unfold leastS; rw [if_pos hb]
      rw [e0] at k1
      exact ifB rfl (k1 _ (Same.refl _))
    | false =>
      have e0 : leastS ps = minO (ps.map (·.a)) := by unfold leastS; rw [hb]; exact if_neg Bool.false_ne_true
      rw [e0] at k1
      refine ifN rfl ?_
      refine ⟨_, rfl, a, _, dx, _, .ref po, rfl, s1 _ _ h1, T.cl, T.n1, rfl, po, rfl, ⟨_, SqT.of (s1 _ _ h2)⟩, fun lB hlB => lc_tup (xs := xs) (fun i H' => Same H1 H' ∧ H' lB = some (.lst (((ps.map (·.a)).take i).map V.int))) ⟨same_upd hlB, upd_same⟩ (fun i H' _ z => SqT.of (z.1 _ _ (s1 _ _ h2))) ?_ ?_⟩
      · rintro i x H2 hvx ⟨s2, q2⟩
        obtain ⟨p, hp, pa, rfl, pq⟩ := h3.at hvx
        refine ⟨rfl, iteT (B := False) ?_⟩
        refine ⟨_, rfl, pa, _, _, _, rfl, rfl, SqT.of (s2 _ _ (s1 _ _ pq)), p.at1, ?_⟩
        refine ⟨_, q2, by rw [List.length_map, List.length_take, List.length_map, sizeLine_eq]; omega, fun c o zz => ?_, ?_⟩
        · rw [upd_ne (ne_of_none zz hlB)]
          exact s2 _ _ zz
        · rw [upd_same, List.take_add_one, List.getElem?_map, hp, List.map_append]
          rfl
      · rintro H2 ⟨s2, q2⟩
        rw [List.take_of_length_le (by rw [List.length_map]; omega)] at q2
        exact ⟨lB, ps.map (·.a), rfl, rfl, SqL.of q2, k1 _ s2⟩
theorem scGreat : FnScope ["self", "piece"] ["self"] (defScope (inClass (top i_Days) j_Days_greatest)) := ⟨rfl, rfl, rfl, by decide +kernel, rfl, by decide +kernel, by decide +kernel⟩
theorem pr_great (F : FunD K "greatest" "Days.greatest" (defArgs (inClass (top i_Days) j_Days_greatest)) (defBody (inClass (top i_Days) j_Days_greatest)) (defScope (inClass (top i_Days) j_Days_greatest)) [] [] f fd) (T : Tx K mg) (G : TmP K) (D : DCon P w K mg base) :
    FnOk P w K mg base CX0 3 f fd ["self"] (spEndD K greatS) := by
  refine F.ok scGreat (fun vs H Q E h => ?_) (fun cdv A outer s H vs Q E hr h => ?_)
  · obtain ⟨a, ps, rfl, _⟩ := h
    rfl
  · obtain ⟨a, ps, rfl, da, hl, k⟩ := h
    have hu := hu_of hr
    obtain ⟨pp, pg, pf, hpr, hpF, hpb⟩ := G.goesU (P := P) (w := w) (base := base) T D
    refine ⟨_, PSs.nox (pss_cons (ps_if (pt_val (pe_prop (pv 0) T.cl hpr hpF (hr.mono (by decide)) hpb .nil pass0 rfl)) (pss_one (ps_ret pe_non)) pss_nil)
        (pss_one (ps_ret (pe_callBK (call_maxN rfl hu) (by rfl) T.max (by decide +kernel) (pa_cons (pe_lc (own := [("piece", 1)]) rfl scGreat.nd (pi_tup (pe_fld (pv 0) rfl)) (blkOk_by (own := [("piece", 1)]) (N := ["self", "piece"]) (sc := defScope (inClass (top i_Days) j_Days_greatest)) (by decide +kernel)) (fun _ _ _ _ _ => (pg_name (i := 1) scGreat.nd rfl (Or.inl rfl))) (fun _ _ _ _ _ => pts_nil) (fun _ _ _ _ _ => (pe_ix (r := rIxT K) ix_tup (pv 1) pe_int (fun _ _ => rfl)))) pa_nil) (pk_cons pe_non pk_nil))))), ?_⟩
    obtain ⟨dx, po, o, u, n, e, st, xs, okv, ns, h1, h2, h3, _, _, _, _, _, _, _, _⟩ := da.ex
    have hxl := h3.len
    refine ⟨_, rfl, a, dx, _, rfl, h1, a, ps, rfl, da, hl, fun H1 s1 => ?_⟩
    refine ⟨_, rfl, ?_⟩
    have k1 := fun H' z => k H' (s1.trans z)
    cases hb : hiS ps with
    | true =>
      have e0 : greatS ps = none := by unfold greatS; rw [if_pos hb]
      rw [e0] at k1
      exact ifB rfl (k1 _ (Same.refl _))
    | false =>
      have e0 : greatS ps = maxO (ps.map (·.a)) := by unfold greatS; rw [hb]; exact if_neg Bool.false_ne_true
      rw [e0] at k1
      refine ifN rfl ?_
      refine ⟨_, rfl, a, _, dx, _, .ref po, rfl, s1 _ _ h1, T.cl, T.n1, rfl, po, rfl, ⟨_, SqT.of (s1 _ _ h2)⟩, fun lB hlB => lc_tup (xs := xs) (fun i H' => Same H1 H' ∧ H' lB = some (.lst (((ps.map (·.a)).take i).map V.int))) ⟨same_upd hlB, upd_same⟩ (fun i H' _ z => SqT.of (z.1 _ _ (s1 _ _ h2))) ?_ ?_⟩
      · rintro i x H2 hvx ⟨s2, q2⟩
        obtain ⟨p, hp, pa, rfl, pq⟩ := h3.at hvx
        refine ⟨rfl, iteT (B := False) ?_⟩
        refine ⟨_, rfl, pa, _, _, _, rfl, rfl, SqT.of (s2 _ _ (s1 _ _ pq)), p.at1, ?_⟩
        refine ⟨_, q2, by rw [List.length_map, List.length_take, List.length_map, sizeLine_eq]; omega, fun c o zz => ?_, ?_⟩
        · rw [upd_ne (ne_of_none zz hlB)]
          exact s2 _ _ zz
        · rw [upd_same, List.take_add_one, List.getElem?_map, hp, List.map_append]
          rfl
      · rintro H2 ⟨s2, q2⟩
        rw [List.take_of_length_le (by rw [List.length_map]; omega)] at q2
        exact ⟨lB, ps.map (·.a), rfl, rfl, SqL.of q2, k1 _ s2⟩
theorem TmP.leastP (h : TmP K) (T : Tx K mg) (D : DCon P w K mg base) : PropA P w K mg base "least" 3 (spEndD K leastS) := by
  obtain ⟨p, g, fd, hp, F⟩ := h.le
  exact ⟨p, g, fd, hp, pr_least F T h D, F.bindsN fun _ _ _ _ _ _ us hl => match us, hl with | [_], _ => rfl⟩
theorem TmP.greatP (h : TmP K) (T : Tx K mg) (D : DCon P w K mg base) : PropA P w K mg base "greatest" 3 (spEndD K greatS) := by
  obtain ⟨p, g, fd, hp, F⟩ := h.gr
  exact ⟨p, g, fd, hp, pr_great F T h D, F.bindsN fun _ _ _ _ _ _ us hl => match us, hl with | [_], _ => rfl⟩
structure DNext (P : Program) (w : World) (K : PySem.W.Frag) (mg : Str → Option Value) (base : Heap) : Prop where
  next_up : Df P w K mg base CX0 1 "next_up" ["piece", "low"] spNextU
  next_down : Df P w K mg base CX0 2 "next_down" ["piece", "high"] spNextD
theorem fm_snoc (g : Pc → Option Int) (ps : List Pc) (p : Pc) : (ps ++ [p]).filterMap g = ps.filterMap g ++ (match g p with | some v => [v] | none => []) := by
  rw [List.filterMap_append]
  congr 1
  simp only [List.filterMap_cons, List.filterMap_nil]
  cases g p <;> rfl
theorem scNFrom : FnScope ["self", "low", "found", "piece", "day"] ["self", "low"] (defScope (inClass (top i_Days) j_Days_next_from)) := ⟨rfl, rfl, rfl, by decide +kernel, rfl, by decide +kernel, by decide +kernel⟩
theorem ok_nextfrom (F : FunD K "next_from" "Days.next_from" (defArgs (inClass (top i_Days) j_Days_next_from)) (defBody (inClass (top i_Days) j_Days_next_from)) (defScope (inClass (top i_Days) j_Days_next_from)) [] [] f fd) (T : Tx K mg) (D : DNext P w K mg base) :
    FnOk P w K mg base CX0 2 f fd ["self", "low"] (spNext K fromS) := by
  refine F.ok scNFrom (fun vs H Q E h => ?_) (fun cdv A outer s H vs Q E hr h => ?_)
  · obtain ⟨a, ps, low, rfl, _⟩ := h
    rfl
  · obtain ⟨a, ps, low, rfl, da, hl, k⟩ := h
    have hu := hu_of hr
    refine ⟨_, PSs.nox (pss_cons (ps_setLc (i := 2) (own := [("piece", 3)]) rfl scNFrom.nd rfl rfl (sw_true rfl rfl rfl (by decide +kernel)) (pi_tup (pe_fld (pv 0) rfl)) (blkOk_by (own := [("piece", 3)]) (N := ["self", "low", "found", "piece", "day"]) (sc := defScope (inClass (top i_Days) j_Days_next_from)) (by decide +kernel)) (fun _ _ _ _ _ => (pg_name (i := 3) scNFrom.nd rfl (Or.inl rfl))) (fun _ _ _ _ _ => pts_nil) (fun _ _ _ _ _ => (pe_cd D.next_up (hr.mono (by decide)) pass0 (pa_cons (pv 3) (pa_cons (pv 1) pa_nil)))))
        (pss_one (ps_ret (pe_callBK (call_minN rfl hu) (by rfl) T.min (by decide +kernel) (pa_cons (pe_lc (own := [("day", 4)]) rfl scNFrom.nd (pi_list (pv 2)) (blkOk_by (own := [("day", 4)]) (N := ["self", "low", "found", "piece", "day"]) (sc := defScope (inClass (top i_Days) j_Days_next_from)) (by decide +kernel)) (fun _ _ _ _ _ => (pg_name (i := 4) scNFrom.nd rfl (Or.inl rfl))) (fun _ _ _ _ _ => (pts_one (pt_cmpR op_notN (pv 4) pe_non (nomark _)))) (fun _ _ _ _ _ => (pv 4))) pa_nil) (pk_cons pe_non pk_nil))))), ?_⟩
    obtain ⟨dx, po, o, u, n, e, st, xs, okv, ns, h1, h2, h3, _, _, _, _, _, _, _, _⟩ := da.ex
    have hxl := h3.len
    refine ⟨_, rfl, a, _, dx, _, .ref po, rfl, h1, T.cl, T.n1, rfl, po, rfl, ⟨_, SqT.of h2⟩, fun lB hlB => lc_tup (xs := xs) (fun i H' => Same H H' ∧ H' lB = some (.lst (((ps.map fun p => nextU p low).take i).map ovI))) ⟨same_upd hlB, upd_same⟩ (fun i H' _ z => SqT.of (z.1 _ _ h2)) ?_ ?_⟩
    · rintro i x H2 hvx ⟨s2, q2⟩
      obtain ⟨p, hp, pa, rfl, pq⟩ := h3.at hvx
      refine ⟨rfl, iteT (B := False) ?_⟩
      refine ⟨_, rfl, _, rfl, pa, p, low, rfl, s2 _ _ pq, da.gd p (List.mem_of_getElem? hp), fun H3 s3 => ?_⟩
      refine ⟨_, s3 _ _ q2, by rw [List.length_map, List.length_take, List.length_map, sizeLine_eq]; omega, fun c o zz => ?_, ?_⟩
      · rw [upd_ne (ne_of_none zz hlB)]
        exact s3 _ _ (s2 _ _ zz)
      · rw [upd_same, List.take_add_one, List.getElem?_map, hp, List.map_append]
        rfl
    · rintro H2 ⟨s2, q2⟩
      rw [List.take_of_length_le (by rw [List.length_map]; omega)] at q2
      dsimp only [tNext, gName]
      refine ⟨_, rfl, lB, rfl, ⟨_, SqL.of q2⟩, fun l2 hl2 => lc_list (xs := (ps.map fun p => nextU p low).map ovI) (fun i H' => Same H2 H' ∧ H' l2 = some (.lst (((ps.take i).filterMap fun p => nextU p low).map V.int))) ⟨same_upd hl2, upd_same⟩ (fun i H' _ z => SqL.of (z.1 _ _ q2)) ?_ ?_⟩
      · rintro i x H3 hvx ⟨s3, q3⟩
        obtain ⟨p, hp, rfl⟩ : ∃ p, ps[i]? = some p ∧ ovI (nextU p low) = x := by
          rw [List.getElem?_map, List.getElem?_map] at hvx
          obtain ⟨o, ho, e⟩ := Option.map_eq_some_iff.mp hvx
          obtain ⟨p, hp, e2⟩ := Option.map_eq_some_iff.mp ho
          exact ⟨p, hp, by rw [e2]; exact e⟩
        have htk : ps.take (i + 1) = ps.take i ++ [p] := by rw [List.take_add_one, hp]; rfl
        have hfl := List.length_filterMap_le (fun p => nextU p low) (ps.take i)
        rw [List.length_take] at hfl
        refine ⟨rfl, _, rfl, rfl, _, rfl, ?_⟩
        rw [htk, fm_snoc]
        cases e : nextU p low with
        | none =>
          refine ifN rfl ⟨s3, ?_⟩
          simp only [List.append_nil]
          exact q3
        | some v =>
          refine ifB rfl ⟨_, rfl, _, q3, by rw [List.length_map, sizeLine_eq]; omega, fun c o zz => ?_, ?_⟩
          · rw [upd_ne (ne_of_none zz hl2)]
            exact s3 _ _ zz
          · rw [upd_same, List.map_append]
            rfl
      · rintro H3 ⟨s3, q3⟩
        rw [List.take_of_length_le (by rw [List.length_map, List.length_map]; exact Nat.le_refl _)] at q3
        exact ⟨l2, _, rfl, rfl, SqL.of q3, k _ (s2.trans s3)⟩
theorem scNTo : FnScope ["self", "high", "found", "piece", "day"] ["self", "high"] (defScope (inClass (top i_Days) j_Days_next_to)) := ⟨rfl, rfl, rfl, by decide +kernel, rfl, by decide +kernel, by decide +kernel⟩
theorem ok_nextto (F : FunD K "next_to" "Days.next_to" (defArgs (inClass (top i_Days) j_Days_next_to)) (defBody (inClass (top i_Days) j_Days_next_to)) (defScope (inClass (top i_Days) j_Days_next_to)) [] [] f fd) (T : Tx K mg) (D : DNext P w K mg base) :
    FnOk P w K mg base CX0 3 f fd ["self", "high"] (spNext K toS) := by
  refine F.ok scNTo (fun vs H Q E h => ?_) (fun cdv A outer s H vs Q E hr h => ?_)
  · obtain ⟨a, ps, low, rfl, _⟩ := h
    rfl
  · obtain ⟨a, ps, low, rfl, da, hl, k⟩ := h
    have hu := hu_of hr
    refine ⟨_, PSs.nox (pss_cons (ps_setLc (i := 2) (own := [("piece", 3)]) rfl scNTo.nd rfl rfl (sw_true rfl rfl rfl (by decide +kernel)) (pi_tup (pe_fld (pv 0) rfl)) (blkOk_by (own := [("piece", 3)]) (N := ["self", "high", "found", "piece", "day"]) (sc := defScope (inClass (top i_Days) j_Days_next_to)) (by decide +kernel)) (fun _ _ _ _ _ => (pg_name (i := 3) scNTo.nd rfl (Or.inl rfl))) (fun _ _ _ _ _ => pts_nil) (fun _ _ _ _ _ => (pe_cd D.next_down (hr.mono (by decide)) pass0 (pa_cons (pv 3) (pa_cons (pv 1) pa_nil)))))
        (pss_one (ps_ret (pe_callBK (call_maxN rfl hu) (by rfl) T.max (by decide +kernel) (pa_cons (pe_lc (own := [("day", 4)]) rfl scNTo.nd (pi_list (pv 2)) (blkOk_by (own := [("day", 4)]) (N := ["self", "high", "found", "piece", "day"]) (sc := defScope (inClass (top i_Days) j_Days_next_to)) (by decide +kernel)) (fun _ _ _ _ _ => (pg_name (i := 4) scNTo.nd rfl (Or.inl rfl))) (fun _ _ _ _ _ => (pts_one (pt_cmpR op_notN (pv 4) pe_non (nomark _)))) (fun _ _ _ _ _ => (pv 4))) pa_nil) (pk_cons pe_non pk_nil))))), ?_⟩
    obtain ⟨dx, po, o, u, n, e, st, xs, okv, ns, h1, h2, h3, _, _, _, _, _, _, _, _⟩ := da.ex
    have hxl := h3.len
    refine ⟨_, rfl, a, _, dx, _, .ref po, rfl, h1, T.cl, T.n1, rfl, po, rfl, ⟨_, SqT.of h2⟩, fun lB hlB => lc_tup (xs := xs) (fun i H' => Same H H' ∧ H' lB = some (.lst (((ps.map fun p => nextD p low).take i).map ovI))) ⟨same_upd hlB, upd_same⟩ (fun i H' _ z => SqT.of (z.1 _ _ h2)) ?_ ?_⟩
    · rintro i x H2 hvx ⟨s2, q2⟩
      obtain ⟨p, hp, pa, rfl, pq⟩ := h3.at hvx
      refine ⟨rfl, iteT (B := False) ?_⟩
      refine ⟨_, rfl, _, rfl, pa, p, low, rfl, s2 _ _ pq, da.gd p (List.mem_of_getElem? hp), fun H3 s3 => ?_⟩
      refine ⟨_, s3 _ _ q2, by rw [List.length_map, List.length_take, List.length_map, sizeLine_eq]; omega, fun c o zz => ?_, ?_⟩
      · rw [upd_ne (ne_of_none zz hlB)]
        exact s3 _ _ (s2 _ _ zz)
      · rw [upd_same, List.take_add_one, List.getElem?_map, hp, List.map_append]
        rfl
    · rintro H2 ⟨s2, q2⟩
      rw [List.take_of_length_le (by rw [List.length_map]; omega)] at q2
      dsimp only [tNext, gName]
      refine ⟨_, rfl, lB, rfl, ⟨_, SqL.of q2⟩, fun l2 hl2 => lc_list (xs := (ps.map fun p => nextD p low).map ovI) (fun i H' => Same H2 H' ∧ H' l2 = some (.lst (((ps.take i).filterMap fun p => nextD p low).map V.int))) ⟨same_upd hl2, upd_same⟩ (fun i H' _ z => SqL.of (z.1 _ _ q2)) ?_ ?_⟩
      · rintro i x H3 hvx ⟨s3, q3⟩
        obtain ⟨p, hp, rfl⟩ : ∃ p, ps[i]? = some p ∧ ovI (nextD p low) = x := by
          rw [List.getElem?_map, List.getElem?_map] at hvx
          obtain ⟨o, ho, e⟩ := Option.map_eq_some_iff.mp hvx
          obtain ⟨p, hp, e2⟩ := Option.map_eq_some_iff.mp ho
          exact ⟨p, hp, by rw [e2]; exact e⟩
        have htk : ps.take (i + 1) = ps.take i ++ [p] := by rw [List.take_add_one, hp]; rfl
        have hfl := List.length_filterMap_le (fun p => nextD p low) (ps.take i)
        rw [List.length_take] at hfl
        refine ⟨rfl, _, rfl, rfl, _, rfl, ?_⟩
        rw [htk, fm_snoc]
        cases e : nextD p low with
        | none =>
          refine ifN rfl ⟨s3, ?_⟩
          simp only [List.append_nil]
          exact q3
        | some v =>
          refine ifB rfl ⟨_, rfl, _, q3, by rw [List.length_map, sizeLine_eq]; omega, fun c o zz => ?_, ?_⟩
          · rw [upd_ne (ne_of_none zz hl2)]
            exact s3 _ _ zz
          · rw [upd_same, List.map_append]
            rfl
      · rintro H3 ⟨s3, q3⟩
        rw [List.take_of_length_le (by rw [List.length_map, List.length_map]; exact Nat.le_refl _)] at q3
        exact ⟨l2, _, rfl, rfl, SqL.of q3, k _ (s2.trans s3)⟩
end
end Wd
end
section
set_option Elab.async false
set_option linter.all false
set_option maxRecDepth 100000
set_option maxHeartbeats 2000000
set_option pp.maxSteps 900
/-! ### Days: sets that are made of sets -/
namespace Wd
open PySem PySem.Spec PyProof.Rows L2 Wt TL NumText
theorem pa_starK {X : Cx} {K : PySem.W.Frag} (hK : X.K = K) {e : Expr} {es : List Expr} {p : Pos} {te : TE} {t : TA} (he : PE X e te) (hr : PA X es t) (hs : starEach (.Starred e p :: es) X.env = (true, eval e X.env) :: starEach es X.env := by rfl) : PA X (.Starred e p :: es) (StX.tStar K te t) := by
  subst hK
  exact StX.pa_star he hr hs
theorem same_make {Hb H3 : Hp} {x dx C : Addr} (nx : Hb x = none) (ndx : Hb dx = none) (sx : Sx x (upd (upd Hb dx (.own x)) x (.ins C dx [])) H3) : Same Hb H3 := fun c o z => by
  have c1 := ne_of_none z nx
  have c2 := ne_of_none z ndx
  exact sx c o (by rw [upd_ne c1, upd_ne c2]; exact z) c1
theorem PcsA.pie {H : Hp} {xs : List V} {ps : List Pc} (h : PcsA H xs ps) : All2 (PieA H) xs ps := All2.mono (fun _ _ ⟨t, e, z⟩ => ⟨t, e, .inr z⟩) h
/-- Days(l), l a list or a tuple of pieces -/
theorem mkDaysF {K : PySem.W.Frag} {CQ : Addr} {Hb : Hp} {l x dx : Addr} {xs : List V} {ps : List Pc} {Q : VK} {E : XK} (hq : SeqH Hb l xs) (al : All2 (PieA Hb) xs ps) (hg : ∀ p ∈ ps, p.good) (hf : Few ps) (hl : ps.length ≤ 1000) (nx : Hb x = none) (ndx : Hb dx = none)
    (k : ∀ H', Same Hb H' → DayA K H' x ps → Q .non H') : spDaysI K CQ [.ref x, .ref l] (upd (upd Hb dx (.own x)) x (.ins (He.ga K "Days") dx [])) Q E := by
  have mv : ∀ c o, Hb c = some o → (upd (upd Hb dx (.own x)) x (.ins (He.ga K "Days") dx [])) c = some o := fun c o z => by
    rw [upd_ne (ne_of_none z nx), upd_ne (ne_of_none z ndx)]
    exact z
  exact ⟨x, dx, l, xs, rfl, upd_same, hq.imp (mv _ _) (mv _ _), by rw [al.len]; exact hl, .inl ⟨ps, All2.mono (fun _ _ ⟨t, e, z⟩ => ⟨t, e, z.imp (mv _ _) (mv _ _)⟩) al, hg, hf, fun H' sx dA => k H' (same_make nx ndx sx) dA⟩⟩
theorem passF {X : Cx} : Passes (L2.CX X.prog X.w) X (fun _ _ _ => False) := fun _ _ _ _ _ _ _ c => by
  obtain ⟨_, _, _, _, _, _, _, _, _, _, _, _, e⟩ := c
  exact e.elim
def Pc.mv (n : Int) (p : Pc) : Pc := ⟨p.k, p.a + n, p.s⟩
theorem inP_mv (p : Pc) (n d : Int) : inP (p.mv n) d = inP p (d - n) := by
  unfold inP
  show (match p.k with
    | .one => decide (d = p.a + n)
    | .up => decide ((d - (p.a + n)) % p.s = 0) && decide (p.a + n ≤ d)
    | .dn => decide ((d - (p.a + n)) % p.s = 0) && decide (d ≤ p.a + n)
    | .ev => decide ((d - (p.a + n)) % p.s = 0)) = _
  have e : d - (p.a + n) = d - n - p.a := by omega
  rw [e]
  cases p.k with
  | one => exact decide_eq_decide.mpr ⟨fun h => by omega, fun h => by omega⟩
  | up =>
    show (_ && _) = (_ && _)
    congr 1
    exact decide_eq_decide.mpr ⟨fun h => by omega, fun h => by omega⟩
  | dn =>
    show (_ && _) = (_ && _)
    congr 1
    exact decide_eq_decide.mpr ⟨fun h => by omega, fun h => by omega⟩
  | ev => rfl
theorem inPs_mv (ps : List Pc) (n d : Int) : inPs (ps.map (Pc.mv n)) d = inPs ps (d - n) := by
  unfold inPs
  rw [List.any_map]
  congr 1
  funext p
  exact inP_mv p n d
theorem Few.mv {ps : List Pc} (h : Few ps) (n : Int) : Few (ps.map (Pc.mv n)) := fun S nd hS => h S nd fun k hk => by
  obtain ⟨p, hp, h1, h2⟩ := hS k hk
  obtain ⟨q, hq, rfl⟩ := List.mem_map.mp hp
  exact ⟨q, hq, h1, h2⟩
/-- sums that may be made -/
structure AddOk (ps qs : List Pc) (B B' : Nat) : Prop where
  okp : SumOk ps
  okq : SumOk qs
  ub : UB (pairsU ps qs) B
  ub' : UB (pairsU (ps.map Pc.tn) (qs.map Pc.tn)) B'
  hB : B ≤ 1000
  hB' : B' ≤ 1000
  len : ∀ pl us ds : List Pc, PlS ps qs pl → pl.length ≤ ps.length * qs.length → us.length ≤ B → ds.length ≤ B' → (allL pl us ds).length ≤ 1000
  few : ∀ pl us ds T T', PlS ps qs pl → (∀ t, t ∈ T ↔ t ∈ pairsU ps qs) → UpS T us → (∀ t, t ∈ T' ↔ t ∈ pairsU (ps.map Pc.tn) (qs.map Pc.tn)) → UpS T' ds → Few (allL pl us ds)
theorem AddOk.nine {ps qs : List Pc} (op : SumOk ps) (oq : SumOk qs) (np : Nine ps) (nq : Nine qs) : AddOk ps qs 81 81 := by
  have t9 : ∀ {ps : List Pc}, Nine ps → Nine (ps.map Pc.tn) := fun h p hp n => by
    obtain ⟨q, hq, rfl⟩ := List.mem_map.mp hp
    exact h q hq (fun e => n (Kd.tn_one.mpr e))
  refine ⟨op, oq, UB.nine np nq, UB.nine (t9 np) (t9 nq), by omega, by omega, fun pl us ds _ h1 h2 h3 => ?_, fun pl us ds T T' h1 h2 h3 h4 h5 => (allL_nine np nq h1 h2 h3 h4 h5).few⟩
  unfold allL
  rw [List.length_append, List.length_append, List.length_map]
  have := Nat.mul_le_mul op.1 oq.1
  omega
theorem AddOk.single {a b : Int} (ha : 1 ≤ a) (hb : 1 ≤ b) (h1 : a ≤ 1000) (h2 : b ≤ 1000) : AddOk [⟨.up, 0, a⟩] [⟨.up, 0, b⟩] 1000 0 := by
  have none0 : pairsU ([⟨.up, 0, a⟩].map Pc.tn) ([⟨.up, 0, b⟩].map Pc.tn) = [] := rfl
  have hpl : ∀ {pl : List Pc}, PlS [⟨.up, 0, a⟩] [⟨.up, 0, b⟩] pl → pl = [] := fun {pl} h => by
    cases pl with
    | nil => rfl
    | cons p r =>
      obtain ⟨m, hm, y, hy, c, _⟩ := h.so p List.mem_cons_self
      rw [List.mem_singleton.mp hm, List.mem_singleton.mp hy] at c
      exact c.elim (fun z => absurd rfl z) (fun z => absurd rfl z.1)
  have sok : ∀ c : Int, 1 ≤ c → c ≤ 1000 → SumOk [⟨.up, 0, c⟩] := fun c c1 c2 => ⟨by simp, fun p hp => by
    rw [List.mem_singleton.mp hp]
    exact ⟨fun _ => c1, (by decide : (-100000000 : Int) ≤ 0), (by decide : (0 : Int) ≤ 100000000), fun _ => c2⟩⟩
  refine ⟨sok a ha h1, sok b hb h2, UB.single ha hb h1, by rw [none0]; exact UB.none _ rfl, by omega, by omega, fun pl us ds g1 _ g3 g4 => ?_, fun pl us ds T T' g1 g2 g3 g4 g5 => ?_⟩
  · rw [hpl g1]
    unfold allL
    rw [List.length_append, List.length_append, List.length_map, List.length_nil]
    omega
  · refine Few.one (min a b) fun p hp n => ?_
    rw [hpl g1] at hp
    rcases List.mem_append.mp hp with hp | hp
    · exact absurd hp List.not_mem_nil
    · rcases List.mem_append.mp hp with hp | hp
      · obtain ⟨_, t, ht, e⟩ := g3.up p hp
        obtain ⟨m, hm, y, hy, _, _, rfl⟩ := mem_pairsU.mp ((g2 t).mp ht)
        rw [List.mem_singleton.mp hm, List.mem_singleton.mp hy] at e
        exact e
      · obtain ⟨q, hq, rfl⟩ := List.mem_map.mp hp
        obtain ⟨_, t, ht, _⟩ := g5.up q hq
        rw [g4, none0] at ht
        exact absurd ht List.not_mem_nil
def spMoved (K : PySem.W.Frag) : Sp := fun vs H Q _ => ∃ (a : Addr) (ps : List Pc) (n : Int), vs = [.ref a, .int n] ∧ DayA K H a ps ∧ Few ps ∧ ps.length ≤ 1000 ∧ ∀ x H', Same H H' → DayA K H' x (ps.map (Pc.mv n)) → Q (.ref x) H'
def spOr (K : PySem.W.Frag) : Sp := fun vs H Q _ => ∃ (a b : Addr) (ps qs : List Pc), vs = [.ref a, .ref b] ∧ DayA K H a ps ∧ DayA K H b qs ∧ Few (ps ++ qs) ∧ ps.length + qs.length ≤ 1000 ∧ ∀ x H', Same H H' → DayA K H' x (ps ++ qs) → Q (.ref x) H'
def spAdd (K : PySem.W.Frag) : Sp := fun vs H Q _ => ∃ (a b : Addr) (ps qs : List Pc) (B B' : Nat), vs = [.ref a, .ref b] ∧ DayA K H a ps ∧ DayA K H b qs ∧ AddOk ps qs B B' ∧
  ∀ x rs H', Same H H' → DayA K H' x rs → rs.length ≤ 1000 → (∀ d, inPs rs d = true ↔ ∃ y, inPs ps y = true ∧ inPs qs (d - y) = true) → Q (.ref x) H'
section
variable {P : Program} {w : World} {K : PySem.W.Frag} {mg : Str → Option Value} {base : Heap} {f : Addr} {fd : FuncData} {CQ : Addr}
structure DMk (P : Program) (w : World) (K : PySem.W.Frag) (mg : Str → Option Value) (base : Heap) (CQ : Addr) : Prop where
  mkD : Mk K (He.ga K "Days") (He.ma K (He.ga K "Days") "__init__")
  iniD : ∃ fd, FnOk P w K mg base (L2.CX P w) 3 (He.ma K (He.ga K "Days") "__init__") fd ["self", "pieces"] (spDaysI K CQ) ∧ Binds K fd ["self", "pieces"] []
  all_sums : Df P w K mg base CX0 3 "all_sums" ["one", "other"] spAll
theorem scMoved : FnScope ["self", "many", "piece"] ["self", "many"] (defScope (inClass (top i_Days) j_Days_moved)) := ⟨rfl, rfl, rfl, by decide +kernel, rfl, by decide +kernel, by decide +kernel⟩
theorem ok_moved (F : FunD K "moved" "Days.moved" (defArgs (inClass (top i_Days) j_Days_moved)) (defBody (inClass (top i_Days) j_Days_moved)) (defScope (inClass (top i_Days) j_Days_moved)) [] [] f fd) (T : Tx K mg) (D : DMk P w K mg base CQ) :
    FnOk P w K mg base CX0 5 f fd ["self", "many"] (spMoved K) := by
  refine F.ok scMoved (fun vs H Q E h => ?_) (fun cdv A outer s H vs Q E hr h => ?_)
  · obtain ⟨a, ps, n, rfl, _⟩ := h
    rfl
  · obtain ⟨a, ps, n, rfl, da, hf, hl, k⟩ := h
    have hu := hu_of hr
    obtain ⟨fdD, GD, bD⟩ := D.iniD
    refine ⟨_, PSs.nox (pss_one (ps_ret (pe_make (E := fun _ _ _ => False) D.mkD GD (hr.mono (by decide)) rfl T.Days bD .nil passF (pa_cons (pe_lc (own := [("piece", 2)]) rfl scMoved.nd (pi_tup (pe_fld (pv 0) rfl)) (blkOk_by (own := [("piece", 2)]) (N := ["self", "many", "piece"]) (sc := defScope (inClass (top i_Days) j_Days_moved)) (by decide +kernel)) (fun _ _ _ _ _ => (pg_name (i := 2) scMoved.nd rfl (Or.inl rfl))) (fun _ _ _ _ _ => pts_nil) (fun _ _ _ _ _ => (pe_tup (pa_cons (pe_ix (r := rIxT K) ix_tup (pv 2) pe_int (fun _ _ => rfl)) (pa_cons (pe_op op_add (pe_ix (r := rIxT K) ix_tup (pv 2) pe_int (fun _ _ => rfl)) (pv 1)) (pa_starK (K := K) rfl (pe_slice (r := rSlU) sl_tupU (pv 2) (po_some pe_int) po_none) pa_nil)))))) pa_nil)))), ?_⟩
    obtain ⟨dx, po, o, u, nn, e, st, xs, okv, ns, h1, h2, h3, _, _, _, _, _, _, _, _⟩ := da.ex
    have hxl := h3.len
    refine ⟨_, rfl, a, _, dx, _, .ref po, rfl, h1, T.cl, T.n1, rfl, po, rfl, ⟨_, SqT.of h2⟩, fun lB hlB => lc_tup (xs := xs) (fun i H' => Same H H' ∧ ∃ acc, H' lB = some (.lst acc) ∧ PcsA H' acc ((ps.take i).map (Pc.mv n))) ⟨same_upd hlB, [], upd_same, .nil⟩ (fun i H' _ z => SqT.of (z.1 _ _ h2)) ?_ ?_⟩
    · rintro i x H2 hvx ⟨s2, acc, q2, al⟩
      obtain ⟨p, hp, pa, rfl, pq⟩ := h3.at hvx
      have htk : ps.take (i + 1) = ps.take i ++ [p] := by rw [List.take_add_one, hp]; rfl
      have pq2 := s2 _ _ pq
      have hla := al.len
      rw [List.length_map, List.length_take] at hla
      refine ⟨rfl, iteT (B := False) ?_⟩
      refine ⟨_, rfl, pa, _, _, _, rfl, rfl, SqT.of pq2, p.at0, ?_⟩
      refine ⟨_, rfl, pa, _, _, .int p.a, rfl, rfl, SqT.of pq2, p.at1, _, rfl, _, _, rfl, rfl, ?_⟩
      refine ⟨_, rfl, 2, rfl, pa, _, rfl, pq2, fun c H3 s3 cq => ?_⟩
      rw [cut2] at cq
      have q3 := s3 _ _ q2
      refine ⟨c, _, rfl, .inl (SqT.of cq), ?_, fun t ht => ?_⟩
      · have := sizeLine_eq
        by_cases h : p.k = .one
        · rw [if_pos h]; simp; omega
        · rw [if_neg h]; simp; omega
      · have e5 : (V.str p.k.w :: V.int (p.a + n) :: ((if p.k = .one then [] else [V.int p.s]) ++ [])) = (p.mv n).vals := vals_eq p.k (p.a + n) p.s
        dsimp only
        rw [e5]
        have sT := same_upd (o := HO.tup (p.mv n).vals) ht
        have q4 := sT _ _ q3
        refine ⟨acc, q4, by have := sizeLine_eq; omega, fun c o zz => ?_, _, upd_same, ?_⟩
        · rw [upd_ne (ne_of_none zz hlB)]
          exact sT _ _ (s3 _ _ (s2 _ _ zz))
        · have mv : ∀ c zs, (upd H3 t (HO.tup (p.mv n).vals)) c = some (.tup zs) → (upd (upd H3 t (HO.tup (p.mv n).vals)) lB (.lst (acc ++ [.ref t]))) c = some (.tup zs) := fun c zs z => by
            rw [upd_ne (fun e => by rw [e, q4] at z; cases z)]
            exact z
          rw [htk, List.map_append]
          exact (All2.mono (fun _ _ ⟨x, e, z⟩ => ⟨x, e, mv _ _ (sT _ _ (s3 _ _ z))⟩) al).snoc ⟨t, rfl, mv _ _ upd_same⟩
    · rintro H2 ⟨s2, acc, q2, al⟩
      rw [List.take_of_length_le (by omega)] at al
      refine fun x dx2 nx ndx nex => ?_
      refine mkDaysF (.inl q2) al.pie (fun p hp => ?_) (hf.mv n) (by rw [List.length_map]; exact hl) nx ndx fun H3 s3 d3 => ?_
      · obtain ⟨q, hq, rfl⟩ := List.mem_map.mp hp
        exact da.gd q hq
      · exact ⟨rfl, k x H3 (s2.trans s3) d3⟩
theorem scOr : FnScope ["self", "other"] ["self", "other"] (defScope (inClass (top i_Days) j_Days___or__)) := ⟨rfl, rfl, rfl, by decide +kernel, rfl, by decide +kernel, by decide +kernel⟩
theorem ok_orD (F : FunD K "__or__" "Days.__or__" (defArgs (inClass (top i_Days) j_Days___or__)) (defBody (inClass (top i_Days) j_Days___or__)) (defScope (inClass (top i_Days) j_Days___or__)) [] [] f fd) (T : Tx K mg) (D : DMk P w K mg base CQ) :
    FnOk P w K mg base CX0 5 f fd ["self", "other"] (spOr K) := by
  refine F.ok scOr (fun vs H Q E h => ?_) (fun cdv A outer s H vs Q E hr h => ?_)
  · obtain ⟨a, b, ps, qs, rfl, _⟩ := h
    rfl
  · obtain ⟨a, b, ps, qs, rfl, da, db, hf, hl, k⟩ := h
    have hu := hu_of hr
    obtain ⟨fdD, GD, bD⟩ := D.iniD
    refine ⟨_, PSs.nox (pss_one (ps_ret (pe_make (E := fun _ _ _ => False) D.mkD GD (hr.mono (by decide)) rfl T.Days bD .nil passF (pa_cons (pe_op op_catU (pe_fld (pv 0) rfl) (pe_fld (pv 1) rfl)) pa_nil)))), ?_⟩
    obtain ⟨dx, po, o, u, nn, e, st, xs, okv, ns, h1, h2, h3, _, _, _, _, _, _, _, _⟩ := da.ex
    obtain ⟨dy, qo, _, _, _, _, _, ys, _, _, j1, j2, j3, _, _, _, _, _, _, _, _⟩ := db.ex
    have hxl := h3.len
    have hyl := j3.len
    refine ⟨_, rfl, a, _, dx, _, .ref po, rfl, h1, T.cl, T.n1, rfl, _, rfl, b, _, dy, _, .ref qo, rfl, j1, T.cl, T.n1, rfl, po, qo, xs, ys, rfl, rfl, h2, j2, by have := sizeLine_eq; omega, fun p H1 s1 pq => ?_⟩
    refine fun x dx2 nx ndx nex => ?_
    refine mkDaysF (.inr pq) (PcsA.pie ((h3.same s1).app (j3.same s1))) (fun p hp => ?_) hf (by rw [List.length_append]; exact hl) nx ndx fun H3 s3 d3 => ?_
    · rcases List.mem_append.mp hp with hp | hp
      · exact da.gd p hp
      · exact db.gd p hp
    · exact ⟨rfl, k x H3 (s1.trans s3) d3⟩
theorem scAdd : FnScope ["self", "other"] ["self", "other"] (defScope (inClass (top i_Days) j_Days___add__)) := ⟨rfl, rfl, rfl, by decide +kernel, rfl, by decide +kernel, by decide +kernel⟩
theorem ok_addD (F : FunD K "__add__" "Days.__add__" (defArgs (inClass (top i_Days) j_Days___add__)) (defBody (inClass (top i_Days) j_Days___add__)) (defScope (inClass (top i_Days) j_Days___add__)) [] [] f fd) (T : Tx K mg) (D : DMk P w K mg base CQ) :
    FnOk P w K mg base CX0 5 f fd ["self", "other"] (spAdd K) := by
  refine F.ok scAdd (fun vs H Q E h => ?_) (fun cdv A outer s H vs Q E hr h => ?_)
  · obtain ⟨a, b, ps, qs, B, B', rfl, _⟩ := h
    rfl
  · obtain ⟨a, b, ps, qs, B, B', rfl, da, db, hok, k⟩ := h
    have hu := hu_of hr
    obtain ⟨fdD, GD, bD⟩ := D.iniD
    refine ⟨_, PSs.nox (pss_one (ps_ret (pe_make (E := fun _ _ _ => False) D.mkD GD (hr.mono (by decide)) rfl T.Days bD .nil passF (pa_cons (pe_cd D.all_sums (hr.mono (by decide)) pass0 (pa_cons (pe_fld (pv 0) rfl) (pa_cons (pe_fld (pv 1) rfl) pa_nil))) pa_nil)))), ?_⟩
    obtain ⟨dx, po, o, u, nn, e, st, xs, okv, ns, h1, h2, h3, _, _, _, _, _, _, _, _⟩ := da.ex
    obtain ⟨dy, qo, _, _, _, _, _, ys, _, _, j1, j2, j3, _, _, _, _, _, _, _, _⟩ := db.ex
    refine ⟨_, rfl, a, _, dx, _, .ref po, rfl, h1, T.cl, T.n1, rfl, _, rfl, b, _, dy, _, .ref qo, rfl, j1, T.cl, T.n1, rfl, ?_⟩
    refine ⟨po, qo, xs, ys, ps, qs, B, B', rfl, h2, j2, h3, j3, hok.okp, hok.okq, hok.ub, hok.ub', hok.hB, hok.hB', fun l pl us ds zs T1 T2 H1 s1 lq al g1 g2 g3 g4 g5 g6 g7 g8 => ?_⟩
    obtain ⟨gd, gi⟩ := allL_in (fun p hp => da.gd p hp) (fun p hp => db.gd p hp) g1 g5 g6 g7 g8
    have hl := hok.len pl us ds g1 g2 g3 g4
    refine fun x dx2 nx ndx nex => ?_
    refine mkDaysF (.inl lq) al.pie gd (hok.few pl us ds T1 T2 g1 g5 g6 g7 g8) hl nx ndx fun H3 s3 d3 => ?_
    exact ⟨rfl, k x _ H3 (s1.trans s3) d3 hl gi⟩
end
end Wd
end
section
set_option Elab.async false
set_option linter.all false
set_option maxRecDepth 100000
set_option maxHeartbeats 2000000
set_option pp.maxSteps 900
/-! ### the law's members, ends, handed sets -/
namespace Wd
open PySem PySem.Spec PyProof.Rows L2 Wt TL NumText
theorem DayA.but {K : PySem.W.Frag} {d l : Addr} {a : Int} {H H' : Hp} {x : Addr} {ps : List Pc} (h : DayA K H x ps) (p : Pen H d l a) (b : But d H H') : DayA K H' x ps := by
  obtain ⟨dx, po, o, u, n, e, st, xs, okv, ns, h1, h2, h3, h4, h5, ⟨k1, u1, u2⟩, ⟨k2, n1, n2⟩, ⟨k3, e1, e2⟩, h9, h10, h11, h12⟩ := h.ex
  obtain ⟨cs, bb, q1, q2, q3⟩ := p
  have ne : ∀ {c : Addr} {v : HO}, H c = some v → (∀ kvs, v ≠ .dK kvs) → c ≠ d := fun z n e => by
    rw [e, q1] at z
    exact n _ (Option.some.inj z).symm
  have no : o ≠ d := fun e => by
    rw [e, q1] at h4
    have e2 : penD l a bb = okv := by injection h4 with z; injection z
    have z := h12 "cells"
    rw [← e2] at z
    cases z
  exact ⟨⟨dx, po, o, u, n, e, st, xs, okv, ns, b _ _ h1 (ne h1 (fun _ => nofun)), b _ _ h2 (ne h2 (fun _ => nofun)), h3.but ⟨cs, bb, q1, q2, q3⟩ b, b _ _ h4 no, h5, ⟨k1, b _ _ u1 (ne u1 (fun _ => nofun)), u2⟩, ⟨k2, b _ _ n1 (ne n1 (fun _ => nofun)), n2⟩, ⟨k3, b _ _ e1 (ne e1 (fun _ => nofun)), e2⟩, b _ _ h9 (ne h9 (fun _ => nofun)), h10, h11, h12⟩, h.gd⟩
/-- lists may change -/
theorem DayA.updL {K : PySem.W.Frag} {H : Hp} {x m : Addr} {ps : List Pc} {zs ys : List V} (h : DayA K H x ps) (hm : H m = some (.lst zs)) : DayA K (upd H m (.lst ys)) x ps := by
  obtain ⟨dx, po, o, u, n, e, st, xs, okv, ns, h1, h2, h3, h4, h5, ⟨k1, u1, u2⟩, ⟨k2, n1, n2⟩, ⟨k3, e1, e2⟩, h9, h10⟩ := h.ex
  have mv : ∀ {c : Addr} {v : HO}, H c = some v → (∀ kvs, v ≠ .lst kvs) → (upd H m (.lst ys)) c = some v := fun {c v} z n => by
    rw [upd_ne (fun e => by rw [e, hm] at z; exact n _ (Option.some.inj z).symm)]
    exact z
  exact ⟨⟨dx, po, o, u, n, e, st, xs, okv, ns, mv h1 (fun _ => nofun), mv h2 (fun _ => nofun), All2.mono (fun _ _ ⟨t, e, z⟩ => ⟨t, e, mv z (fun _ => nofun)⟩) h3, mv h4 (fun _ => nofun), h5, ⟨k1, mv u1 (fun _ => nofun), u2⟩, ⟨k2, mv n1 (fun _ => nofun), n2⟩, ⟨k3, mv e1 (fun _ => nofun), e2⟩, mv h9 (fun _ => nofun), h10⟩, h.gd⟩
/-- the whole numbers from -far to far -/
def farR (far : Int) : List Int := (List.range (2 * far + 1).toNat).map fun (i : Nat) => -far + (i : Int)
def mems (ps : List Pc) (far : Int) : List Int := (farR far).filter (inPs ps)
theorem mem_farR {far x : Int} : x ∈ farR far ↔ -far ≤ x ∧ x ≤ far := by
  unfold farR
  rw [List.mem_map]
  constructor
  · rintro ⟨i, hi, rfl⟩
    have := List.mem_range.mp hi
    omega
  · rintro ⟨h1, h2⟩
    exact ⟨(x + far).toNat, List.mem_range.mpr (by omega), by omega⟩
theorem farR_sorted (far : Int) : (farR far).Pairwise (· < ·) := by
  unfold farR
  rw [List.pairwise_map]
  refine List.Pairwise.imp (fun h => ?_) (List.pairwise_lt_range)
  omega
theorem mem_mems {ps : List Pc} {far x : Int} : x ∈ mems ps far ↔ (-far ≤ x ∧ x ≤ far) ∧ inPs ps x = true := by
  unfold mems
  rw [List.mem_filter, mem_farR]
def spLMem : Sp := fun vs H Q _ => ∃ (r : Addr) (xs : List V) (ps : List Pc) (far : Int), vs = [.ref r, .int far] ∧ H r = some (.lst xs) ∧ PcsA H xs ps ∧ (∀ p ∈ ps, p.good) ∧ ps.length ≤ 1000 ∧ 0 ≤ far ∧ far ≤ 1000 ∧ ∀ l H', Same H H' → H' l = some (.lst ((mems ps far).map V.int)) → Q (.ref l) H'
def spLEnds : Sp := fun vs H Q _ => ∃ (r : Addr) (xs : List V) (ps : List Pc), vs = [.ref r] ∧ H r = some (.lst xs) ∧ PcsA H xs ps ∧ ps.length ≤ 60 ∧ ∀ t H', Same H H' → H' t = some (.tup [ovI (leastS ps), ovI (greatS ps), .bl (loS ps), .bl (hiS ps)]) → Q (.ref t) H'
theorem take_range_succ (n i : Nat) (h : i < n) : (List.range n).take (i + 1) = (List.range n).take i ++ [i] := by
  rw [List.take_add_one, List.getElem?_range h]
  rfl
section
variable {P : Program} {w : World} {K : PySem.W.Frag} {mg : Str → Option Value} {base : Heap} {f : Addr} {fd : FuncData} {CQ : Addr}
structure DLMem (P : Program) (w : World) (K : PySem.W.Frag) (mg : Str → Option Value) (base : Heap) : Prop where
  law_in_pieces : Df P w K mg base CX0 2 "_law_in_pieces" ["_law_pieces_here", "_law_day"] spLInPs
theorem scLMem : FnScope ["_law_pieces_here", "_law_far", "_law_day"] ["_law_pieces_here", "_law_far"] (defScope (top i__law_members)) := ⟨rfl, rfl, rfl, by decide +kernel, rfl, by decide +kernel, by decide +kernel⟩
theorem ok_lmem (F : FnG K "_law_members" i__law_members f fd) (T : Tx K mg) (D : DLMem P w K mg base) : FnOk P w K mg base CX0 3 f fd ["_law_pieces_here", "_law_far"] spLMem := by
  refine F.ok scLMem (fun vs H Q E h => ?_) (fun cdv A outer s H vs Q E hr h => ?_)
  · obtain ⟨r, xs, ps, far, rfl, _⟩ := h
    rfl
  · obtain ⟨r, xs, ps, far, rfl, rq, al, hg, hl, f0, f1, k⟩ := h
    refine ⟨_, PSs.nox (pss_one (ps_ret (pe_lc (own := [("_law_day", 2)]) rfl scLMem.nd (pi_range2 (by rfl) T.range (pa_cons (pe_un un_neg (pv 1)) (pa_cons (pe_op op_add (pv 1) pe_int) pa_nil))) (blkOk_by (own := [("_law_day", 2)]) (N := ["_law_pieces_here", "_law_far", "_law_day"]) (sc := defScope (top i__law_members)) (by decide +kernel)) (fun _ _ _ _ _ => (pg_name (i := 2) scLMem.nd rfl (Or.inl rfl))) (fun _ _ _ _ _ => (pts_one (pt_val (pe_cd D.law_in_pieces (hr.mono (by decide)) pass0 (pa_cons (pv 0) (pa_cons (pv 2) pa_nil)))))) (fun _ _ _ _ _ => (pv 2))))), ?_⟩
    have ftk : ∀ i : Nat, i < (2 * far + 1).toNat → (farR far).take (i + 1) = (farR far).take i ++ [-far + (i : Int)] := fun i h => by
      unfold farR
      rw [← List.map_take, ← List.map_take, take_range_succ _ _ h, List.map_append]
      rfl
    refine ⟨_, rfl, far, rfl, _, rfl, _, _, rfl, rfl, -far, far + 1, rfl, ⟨by omega, by omega, by omega, by omega⟩, fun lB hlB => lc_range (lo := -far) (n := (far + 1 - -far).toNat) (fun i H' => Same H H' ∧ H' lB = some (.lst ((((farR far).take i).filter (inPs ps)).map V.int))) ⟨same_upd hlB, upd_same⟩ ?_ ?_⟩
    · rintro i H2 hi ⟨s2, q2⟩
      refine ⟨rfl, _, rfl, _, rfl, r, xs, ps, -far + (i : Int), rfl, s2 _ _ rq, al.same s2, hg, hl, fun H3 s3 => ⟨_, rfl, ?_⟩⟩
      rw [ftk i (by omega), List.filter_append]
      have q3 := s3 _ _ q2
      cases e : inPs ps (-far + (i : Int)) with
      | true =>
        have e1 : [-far + (i : Int)].filter (inPs ps) = [-far + (i : Int)] := by rw [List.filter_cons, if_pos e]; rfl
        rw [e1]
        refine ifB rfl ⟨_, rfl, _, q3, ?_, fun c o zz => ?_, by rw [upd_same, List.map_append]; rfl⟩
        · have := List.length_filter_le (inPs ps) ((farR far).take i)
          rw [List.length_take] at this
          rw [List.length_map, sizeLine_eq]
          omega
        · rw [upd_ne (ne_of_none zz hlB)]
          exact s3 _ _ (s2 _ _ zz)
      | false =>
        have e1 : [-far + (i : Int)].filter (inPs ps) = [] := by rw [List.filter_cons, if_neg (by rw [e]; exact Bool.false_ne_true)]; rfl
        rw [e1, List.append_nil]
        exact ifN rfl ⟨s2.trans s3, q3⟩
    · rintro H2 ⟨s2, q2⟩
      rw [List.take_of_length_le (by unfold farR; rw [List.length_map, List.length_range]; omega)] at q2
      exact k lB H2 s2 q2
end
end Wd
end
section
set_option Elab.async false
set_option linter.all false
set_option maxRecDepth 100000
set_option maxHeartbeats 2000000
set_option pp.maxSteps 900
/-! ### the law's ends -/
namespace Wd
open PySem PySem.Spec PyProof.Rows L2 Wt TL NumText
theorem viaE {t : TE} {σ : L2.St} {H : Hp} {Q : V → Hp → Prop} (W : V → Hp → Prop) (h : ∀ Q' : V → Hp → Prop, (∀ v H', W v H' → Q' v H') → t σ H Q') (k : ∀ v H', W v H' → Q v H') : t σ H Q := h Q k
theorem srt_min {ns ns' : List Int} (p : ns'.Perm ns) (h : ns'.Pairwise (· ≤ ·)) {x : Int} {r : List Int} (e : ns' = x :: r) : minO ns = some x := by
  subst e
  have hx : x ∈ ns := p.mem_iff.mp List.mem_cons_self
  cases hm : minO ns with
  | none => rw [minO_none hm] at hx; exact absurd hx List.not_mem_nil
  | some d =>
    obtain ⟨h1, h2⟩ := minO_some hm
    have a1 := h2 x hx
    have a2 : x ≤ d := by
      rcases List.mem_cons.mp (p.mem_iff.mpr h1) with z | z
      · omega
      · exact (List.pairwise_cons.mp h).1 d z
    rw [show d = x from by omega]
theorem srt_max {ns ns' : List Int} (p : ns'.Perm ns) (h : ns'.Pairwise (· ≤ ·)) {x : Int} {r : List Int} (e : ns' = r ++ [x]) : maxO ns = some x := by
  subst e
  have hx : x ∈ ns := p.mem_iff.mp (List.mem_append_right _ List.mem_cons_self)
  cases hm : maxO ns with
  | none => rw [maxO_none hm] at hx; exact absurd hx List.not_mem_nil
  | some d =>
    obtain ⟨h1, h2⟩ := maxO_some hm
    have a1 := h2 x hx
    have a2 : d ≤ x := by
      rcases List.mem_append.mp (p.mem_iff.mpr h1) with z | z
      · exact (List.pairwise_append.mp h).2.2 d z x (List.mem_singleton.mpr rfl)
      · rw [List.mem_singleton.mp z]; exact Int.le_refl _
    rw [show d = x from by omega]
theorem eqv_nil : PyData.eqv (.list []) (.list []) = true := by simp [PyData.eqv, PyData.eqvAll]
theorem eqv_cons (x : PyData) (r : List PyData) : PyData.eqv (.list (x :: r)) (.list []) = false := by simp [PyData.eqv, PyData.eqvAll]
section
variable {P : Program} {w : World} {K : PySem.W.Frag} {mg : Str → Option Value} {base : Heap} {f : Addr} {fd : FuncData} {CQ : Addr}
theorem scLEnds : FnScope ["_law_pieces_here", "_law_down", "_law_up", "_law_spots", "_law_piece"] ["_law_pieces_here"] (defScope (top i__law_ends)) := ⟨rfl, rfl, rfl, by decide +kernel, rfl, by decide +kernel, by decide +kernel⟩
theorem ok_lends (F : FnG K "_law_ends" i__law_ends f fd) (T : Tx K mg) (D : DCon P w K mg base) : FnOk P w K mg base CX0 1 f fd ["_law_pieces_here"] spLEnds := by
  refine F.ok scLEnds (fun vs H Q E h => ?_) (fun cdv A outer s H vs Q E hr h => ?_)
  · obtain ⟨r, xs, ps, rfl, _⟩ := h
    rfl
  · obtain ⟨r, xs, ps, rfl, rq, al, hl, k⟩ := h
    have hxl := al.len
    have hu64 := hr.units
    refine ⟨_, PSs.nox (pss_cons (ps_set (i := 1) scLEnds.nd rfl (Or.inl rfl) (pe_callB (cr_any rfl) (by rfl) D.any (by decide +kernel) (pa_cons (pe_lc (own := [("_law_piece", 4)]) rfl scLEnds.nd (pi_list (pv 0)) (blkOk_by (own := [("_law_piece", 4)]) (N := ["_law_pieces_here", "_law_down", "_law_up", "_law_spots", "_law_piece"]) (sc := defScope (top i__law_ends)) (by decide +kernel)) (fun _ _ _ _ _ => (pg_name (i := 4) scLEnds.nd rfl (Or.inl rfl))) (fun _ _ _ _ _ => pts_nil) (fun _ _ _ _ _ => (pe_cmpR (r := rIn K false) op_in_seq (pe_ix (r := rIxT K) ix_tup (pv 4) pe_int (fun _ _ => rfl)) (pe_tup (pa_cons pe_str (pa_cons pe_str pa_nil))) (by rfl)))) pa_nil)))
        (pss_cons (ps_set (i := 2) scLEnds.nd rfl (Or.inl rfl) (pe_callB (cr_any rfl) (by rfl) D.any (by decide +kernel) (pa_cons (pe_lc (own := [("_law_piece", 4)]) rfl scLEnds.nd (pi_list (pv 0)) (blkOk_by (own := [("_law_piece", 4)]) (N := ["_law_pieces_here", "_law_down", "_law_up", "_law_spots", "_law_piece"]) (sc := defScope (top i__law_ends)) (by decide +kernel)) (fun _ _ _ _ _ => (pg_name (i := 4) scLEnds.nd rfl (Or.inl rfl))) (fun _ _ _ _ _ => pts_nil) (fun _ _ _ _ _ => (pe_cmpR (r := rIn K false) op_in_seq (pe_ix (r := rIxT K) ix_tup (pv 4) pe_int (fun _ _ => rfl)) (pe_tup (pa_cons pe_str (pa_cons pe_str pa_nil))) (by rfl)))) pa_nil)))
        (pss_cons (ps_set (i := 3) scLEnds.nd rfl (Or.inl rfl) (pe_callB cr_sorted (by rfl) T.sorted (by decide +kernel) (pa_cons (pe_lc (own := [("_law_piece", 4)]) rfl scLEnds.nd (pi_list (pv 0)) (blkOk_by (own := [("_law_piece", 4)]) (N := ["_law_pieces_here", "_law_down", "_law_up", "_law_spots", "_law_piece"]) (sc := defScope (top i__law_ends)) (by decide +kernel)) (fun _ _ _ _ _ => (pg_name (i := 4) scLEnds.nd rfl (Or.inl rfl))) (fun _ _ _ _ _ => pts_nil) (fun _ _ _ _ _ => (pe_callTy call_int1 (by rfl) T.int (by decide +kernel) (pa_cons (pe_ix (r := rIxT K) ix_tup (pv 4) pe_int (fun _ _ => rfl)) pa_nil)))) pa_nil)))
        (pss_one (ps_ret (pe_tup (pa_cons (pe_ifExp (PW.pt (pw_or (pt_val (pv 1)) (pw_or1 (pt_cmpR (op_eqD hu64) (pv 3) (pe_lst pa_nil) (nomark _))))) pe_non (pe_ix ix_list (pv 3) pe_int (fun _ _ => rfl))) (pa_cons (pe_ifExp (PW.pt (pw_or (pt_val (pv 2)) (pw_or1 (pt_cmpR (op_eqD hu64) (pv 3) (pe_lst pa_nil) (nomark _))))) pe_non (pe_ix ix_list (pv 3) (pe_un un_neg pe_int) (fun _ _ => rfl))) (pa_cons (pv 1) (pa_cons (pv 2) pa_nil)))))))))), ?_⟩
    refine ⟨_, rfl, r, rfl, ⟨_, SqL.of rq⟩, fun lB hlB => lc_list (xs := xs) (fun i H' => Same H H' ∧ H' lB = some (.lst (((ps.map fun p => decide (p.k = .dn) || decide (p.k = .ev)).take i).map V.bl))) ⟨same_upd hlB, upd_same⟩ (fun i H' _ z => SqL.of (z.1 _ _ rq)) ?_ ?_⟩
    · rintro i x H2 hvx ⟨s2, q2⟩
      obtain ⟨p, hp, pa, rfl, pq⟩ := al.at hvx
      refine ⟨rfl, iteT (B := False) ?_⟩
      refine ⟨_, rfl, pa, _, _, _, rfl, rfl, SqT.of (s2 _ _ pq), p.at0, (by show 2 ≤ sizeLine; decide), fun t ht => ?_⟩
      have sT := same_upd (o := HO.tup [.str "down", .str "every"]) ht
      refine ⟨t, _, rfl, .inr (SqT.of upd_same), rfl, rfl, ?_⟩
      rw [if_neg Bool.false_ne_true, in_dnev]
      refine ⟨_, sT _ _ q2, by rw [List.length_map, List.length_take, List.length_map, sizeLine_eq]; omega, fun c o zz => ?_, ?_⟩
      · rw [upd_ne (ne_of_none zz hlB)]
        exact sT _ _ (s2 _ _ zz)
      · rw [upd_same, List.take_add_one, List.getElem?_map, hp, List.map_append]
        rfl
    rintro H2 ⟨s2, q2⟩
    rw [List.take_of_length_le (by rw [List.length_map]; omega)] at q2
    refine ⟨lB, _, rfl, SqL.of q2, ?_⟩
    have e3 : (ps.map fun p => decide (p.k = .dn) || decide (p.k = .ev)).any id = loS ps := by rw [List.any_map]; rfl
    rw [e3]
    dsimp only [tNext, gName]
    refine ⟨_, rfl, r, rfl, ⟨_, SqL.of (s2 _ _ rq)⟩, fun lC hlC => lc_list (xs := xs) (fun i H' => Same H2 H' ∧ H' lC = some (.lst (((ps.map fun p => decide (p.k = .up) || decide (p.k = .ev)).take i).map V.bl))) ⟨same_upd hlC, upd_same⟩ (fun i H' _ z => SqL.of (z.1 _ _ (s2 _ _ rq))) ?_ ?_⟩
    · rintro i x H3 hvx ⟨s3, q3⟩
      obtain ⟨p, hp, pa, rfl, pq⟩ := al.at hvx
      refine ⟨rfl, iteT (B := False) ?_⟩
      refine ⟨_, rfl, pa, _, _, _, rfl, rfl, SqT.of (s3 _ _ (s2 _ _ pq)), p.at0, (by show 2 ≤ sizeLine; decide), fun t ht => ?_⟩
      have sT := same_upd (o := HO.tup [.str "up", .str "every"]) ht
      refine ⟨t, _, rfl, .inr (SqT.of upd_same), rfl, rfl, ?_⟩
      rw [if_neg Bool.false_ne_true, in_upev]
      refine ⟨_, sT _ _ q3, by rw [List.length_map, List.length_take, List.length_map, sizeLine_eq]; omega, fun c o zz => ?_, ?_⟩
      · rw [upd_ne (ne_of_none zz hlC)]
        exact sT _ _ (s3 _ _ zz)
      · rw [upd_same, List.take_add_one, List.getElem?_map, hp, List.map_append]
        rfl
    rintro H3 ⟨s3, q3⟩
    rw [List.take_of_length_le (by rw [List.length_map]; omega)] at q3
    refine ⟨lC, _, rfl, SqL.of q3, ?_⟩
    have e4 : (ps.map fun p => decide (p.k = .up) || decide (p.k = .ev)).any id = hiS ps := by rw [List.any_map]; rfl
    rw [e4]
    dsimp only [tNext, gName]
    have s13 := s2.trans s3
    refine ⟨_, rfl, r, rfl, ⟨_, SqL.of (s13 _ _ rq)⟩, fun lD hlD => lc_list (xs := xs) (fun i H' => Same H3 H' ∧ H' lD = some (.lst (((ps.map (·.a)).take i).map V.int))) ⟨same_upd hlD, upd_same⟩ (fun i H' _ z => SqL.of (z.1 _ _ (s13 _ _ rq))) ?_ ?_⟩
    · rintro i x H4 hvx ⟨s4, q4⟩
      obtain ⟨p, hp, pa, rfl, pq⟩ := al.at hvx
      refine ⟨rfl, iteT (B := False) ?_⟩
      refine ⟨_, rfl, pa, _, _, _, rfl, rfl, SqT.of (s4 _ _ (s13 _ _ pq)), p.at1, .inl ⟨_, rfl, ?_⟩⟩
      refine ⟨_, q4, by rw [List.length_map, List.length_take, List.length_map, sizeLine_eq]; omega, fun c o zz => ?_, ?_⟩
      · rw [upd_ne (ne_of_none zz hlD)]
        exact s4 _ _ zz
      · rw [upd_same, List.take_add_one, List.getElem?_map, hp, List.map_append]
        rfl
    rintro H4 ⟨s4, q4⟩
    rw [List.take_of_length_le (by rw [List.length_map]; omega)] at q4
    refine ⟨lD, ps.map (·.a), rfl, SqL.of q4, by rw [List.length_map]; omega, fun ns ls hperm hpw hls => ?_⟩
    have s5 := (s13.trans s4).trans (same_upd (o := HO.lst (ns.map V.int)) hls)
    have lq : (upd H4 ls (.lst (ns.map V.int))) ls = some (.lst (ns.map V.int)) := upd_same
    generalize upd H4 ls (.lst (ns.map V.int)) = H5 at s5 lq ⊢
    dsimp only [tNext, gName]
    have nilv : ∀ {H6 : Hp} {t : Addr}, Same H5 H6 → H6 t = some (.lst []) → ∃ d e, Dp K H6 (.ref ls) d ∧ Dp K H6 (.ref t) e ∧ SeqAt.shaped d = true ∧ SeqAt.shaped e = true ∧ (PyData.eqv d e = decide (ns = [])) := fun {H6 t} s6 tq => by
      refine ⟨.list (ns.map .int), .list [], .lst (SqL.of (s6 _ _ lq)) (dp_ints ns), .lst (SqL.of tq) .nil, shaped_ints0 ns, shaped_ints0 [], ?_⟩
      cases ns with
      | nil => exact eqv_nil
      | cons x r => exact eqv_cons _ _
    have noN : ns = [] → ps.map (·.a) = [] := fun e => by rw [e] at hperm; exact hperm.symm.eq_nil
    have last_at : ∀ {x : Int} {r : List Int}, ns = r ++ [x] → atI (ns.map V.int) (-1) = some (.int x) := fun {x r} e => by
      rw [e, List.map_append]
      exact atI_last _ _
    show tIf _ _ _ _ _ _
    refine viaE (W := fun v H' => v = ovI (leastS ps) ∧ Same H5 H') (fun Q' hQ => ?_) (fun v1 H6 w6 => ?_)
    · cases hb : loS ps with
      | true =>
        have e0 : leastS ps = none := by unfold leastS; rw [if_pos hb]
        exact ⟨_, rfl, _, rfl, ifB rfl (ifB rfl (hQ _ _ ⟨by rw [e0]; rfl, Same.refl _⟩))⟩
      | false =>
        have e0 : leastS ps = minO (ps.map (·.a)) := by unfold leastS; rw [hb]; exact if_neg Bool.false_ne_true
        refine ⟨_, rfl, _, rfl, ifN rfl ⟨_, rfl, Nat.zero_le _, fun t ht => ?_⟩⟩
        obtain ⟨d, e, g1, g2, g3, g4, g5⟩ := nilv (same_upd ht) upd_same
        refine ⟨d, e, g1, g2, g3, g4, _, rfl, ?_⟩
        rw [g5]
        cases hn : ns with
        | nil =>
          refine ifB (decide_eq_true rfl) (hQ _ _ ⟨?_, same_upd ht⟩)
          rw [e0, noN hn]
          rfl
        | cons x r =>
          refine ifN (decide_eq_false (fun z => by cases z)) ?_
          refine ⟨_, rfl, ls, _, _, .int x, rfl, rfl, SqL.of (same_upd ht _ _ lq), (show atI (ns.map V.int) ((0 : Nat) : Int) = _ from atI_nat (by rw [hn]; rfl)), hQ _ _ ⟨?_, same_upd ht⟩⟩
          rw [e0, srt_min hperm hpw hn]
          rfl
    obtain ⟨rfl, s6⟩ := w6
    show tIf _ _ _ _ _ _
    refine viaE (W := fun v H' => v = ovI (greatS ps) ∧ Same H5 H') (fun Q' hQ => ?_) (fun v2 H7 w7 => ?_)
    · cases hb : hiS ps with
      | true =>
        have e0 : greatS ps = none := by unfold greatS; rw [if_pos hb]
        exact ⟨_, rfl, _, rfl, ifB rfl (ifB rfl (hQ _ _ ⟨by rw [e0]; rfl, s6⟩))⟩
      | false =>
        have e0 : greatS ps = maxO (ps.map (·.a)) := by unfold greatS; rw [hb]; exact if_neg Bool.false_ne_true
        refine ⟨_, rfl, _, rfl, ifN rfl ⟨_, rfl, Nat.zero_le _, fun t ht => ?_⟩⟩
        obtain ⟨d, e, g1, g2, g3, g4, g5⟩ := nilv (s6.trans (same_upd ht)) upd_same
        refine ⟨d, e, g1, g2, g3, g4, _, rfl, ?_⟩
        rw [g5]
        rcases List.eq_nil_or_concat ns with hn | ⟨r, x, hn⟩
        · refine ifB (decide_eq_true hn) (hQ _ _ ⟨?_, s6.trans (same_upd ht)⟩)
          rw [e0, noN hn]
          rfl
        · rw [List.concat_eq_append] at hn
          refine ifN (decide_eq_false (fun z => by rw [z] at hn; exact absurd hn.symm (by simp))) ?_
          refine ⟨_, rfl, _, rfl, ls, _, _, .int x, rfl, rfl, SqL.of ((s6.trans (same_upd ht)) _ _ lq), last_at hn, hQ _ _ ⟨?_, s6.trans (same_upd ht)⟩⟩
          rw [e0, srt_max hperm hpw hn]
          rfl
    obtain ⟨rfl, s7⟩ := w7
    exact ⟨_, rfl, _, rfl, (by show 4 ≤ sizeLine; decide), fun t ht => k t _ ((s5.trans s7).trans (same_upd ht)) upd_same⟩
end
end Wd
end
section
set_option Elab.async false
set_option linter.all false
set_option maxRecDepth 100000
set_option maxHeartbeats 2000000
set_option pp.maxSteps 900
/-! ### sets that the law hands in as lists and tuples -/
namespace Wd
open PySem PySem.Spec PyProof.Rows L2 Wt TL NumText
def rLstOf (K : PySem.W.Frag) : List V → Hp → VK → Prop := fun xs H Q => ∃ p ys, xs = [.ref p] ∧ (SqL K H p ys ∨ SqT K H p ys) ∧ ∀ l, H l = none → Q (.ref l) (upd H l (.lst ys))
theorem call_list_ofR {X : Cx} : CallR X (.type "list") (rLstOf X.K) := call_list_of
/-- a piece as it is handed in: the tuple, or a new list -/
def HanA (H0 : Hp) (lB : Addr) (H : Hp) (v : V) (p : Pc) : Prop := ∃ t, v = .ref t ∧ (H t = some (.tup p.vals) ∨ (H0 t = none ∧ t ≠ lB ∧ H t = some (.lst p.vals)))
/-- a piece that was handed in, whatever became of it -/
def HanB (H0 : Hp) (lB : Addr) (n : Nat) (H : Hp) (v : V) : Prop := ∃ t, v = .ref t ∧ ((∃ ys, H t = some (.tup ys)) ∨ (H0 t = none ∧ t ≠ lB ∧ ∃ ys, H t = some (.lst ys) ∧ 2 ≤ ys.length ∧ ys.length ≤ n))
def spLHand (K : PySem.W.Frag) : Sp := fun vs H Q _ => ∃ (d l r : Addr) (a : Int) (xs : List V) (ps : List Pc), vs = [.ref d, .ref r] ∧ Pen H d l a ∧ a ≤ 90000 ∧ H r = some (.lst xs) ∧ PcsA H xs ps ∧ (∀ p ∈ ps, p.good) ∧ Few ps ∧ ps.length ≤ 60 ∧
  ∀ x a' H', a ≤ a' → a' ≤ a + 60 → Pen H' d l a' → But d H H' → DayA K H' x ps → Q (.ref x) H'
section
variable {P : Program} {w : World} {K : PySem.W.Frag} {mg : Str → Option Value} {base : Heap} {f : Addr} {fd : FuncData} {CQ : Addr}
structure DLHand (P : Program) (w : World) (K : PySem.W.Frag) (mg : Str → Option Value) (base : Heap) (CQ : Addr) : Prop where
  mkD : Mk K (He.ga K "Days") (He.ma K (He.ga K "Days") "__init__")
  iniD : ∃ fd, FnOk P w K mg base (L2.CX P w) 3 (He.ma K (He.ga K "Days") "__init__") fd ["self", "pieces"] (spDaysI K CQ) ∧ Binds K fd ["self", "pieces"] []
  law_draw : Df P w K mg base CX0 1 "_law_draw" ["_law_pen_here", "_law_many"] spDraw
theorem scLHand : FnScope ["_law_pen_here", "_law_pieces_here", "_law_piece", "_law_handed_here", "_law_days"] ["_law_pen_here", "_law_pieces_here"] (defScope (top i__law_handed)) := ⟨rfl, rfl, rfl, by decide +kernel, rfl, by decide +kernel, by decide +kernel⟩
theorem ok_lhand (F : FnG K "_law_handed" i__law_handed f fd) (T : Tx K mg) (D : DLHand P w K mg base CQ) : FnOk P w K mg base CX0 5 f fd ["_law_pen_here", "_law_pieces_here"] (spLHand K) := by
  refine F.ok scLHand (fun vs H Q E h => ?_) (fun cdv A outer s H vs Q E hr h => ?_)
  · obtain ⟨d, l, r, a, xs, ps, rfl, _⟩ := h
    rfl
  · obtain ⟨d, l, r, a, xs, ps, rfl, pen, ha, rq, al, hg, hf, hl, k⟩ := h
    have hxl := al.len
    have hu := hu_of hr
    obtain ⟨fdD, GD, bD⟩ := D.iniD
    refine ⟨_, PSs.nox (pss_cons (ps_setLc (i := 3) (own := [("_law_piece", 2)]) rfl scLHand.nd rfl rfl (sw_true rfl rfl rfl (by decide +kernel)) (pi_list (pv 1)) (blkOk_by (own := [("_law_piece", 2)]) (N := ["_law_pen_here", "_law_pieces_here", "_law_piece", "_law_handed_here", "_law_days"]) (sc := defScope (top i__law_handed)) (by decide +kernel)) (fun _ _ _ _ _ => (pg_name (i := 2) scLHand.nd rfl (Or.inl rfl))) (fun _ _ _ _ _ => pts_nil) (fun _ _ _ _ _ => (pe_ifExp (pt_cmpR op_eq (pe_cd D.law_draw (hr.mono (by decide)) pass0 (pa_cons (pv 0) (pa_cons pe_int pa_nil))) pe_int (nomark _)) (pe_callTy (r := rLstOf K) call_list_ofR (by rfl) T.list (by decide +kernel) (pa_cons (pv 2) pa_nil)) (pv 2))))
        (pss_cons (ps_set (i := 4) scLHand.nd rfl (Or.inl rfl) (pe_make (E := fun _ _ _ => False) D.mkD GD (hr.mono (by decide)) rfl T.Days bD .nil passF (pa_cons (pv 3) pa_nil)))
        (pss_cons (ps_for PassesOwn.never rfl (pi_list (pv 3)) (pg_name (i := 2) scLHand.nd rfl (Or.inl rfl)) (pss_one (ps_if (pt_val (pe_callB call_isi (by rfl) T.isinstance (by decide +kernel) (pa_cons (pv 2) (pa_cons (pe_bltn (v := .ty "list") (by rfl) T.list (by decide +kernel) rfl) pa_nil)))) (pss_cons (ps_asg (pe_op op_pow pe_int pe_int) (pg_sub (pv 2) pe_int set_list))
        (pss_one (ps_expr (pe_bm PySem.F.plainAttrs_list PySem.F.slot_list_append PySem.F.type_list_append mt_append (pv 2) (pa_cons pe_int pa_nil))))) pss_nil)))
        (pss_cons (ps_expr (pe_bm PySem.F.plainAttrs_list PySem.F.slot_list_append PySem.F.type_list_append mt_append (pv 3) (pa_cons (pe_tup (pa_cons pe_str (pa_cons pe_int (pa_cons pe_int pa_nil)))) pa_nil)))
        (pss_one (ps_ret (pv 4))))))), ?_⟩
    have rd : r ≠ d := pen.dne rq
    refine ⟨_, rfl, r, rfl, ⟨_, SqL.of rq⟩, fun lB hlB => lc_list (xs := xs) (fun i H' => ∃ a', Pen H' d l a' ∧ a ≤ a' ∧ a' ≤ a + i ∧ But d H H' ∧ ∃ acc, H' lB = some (.lst acc) ∧ All2 (HanA H lB H') acc (ps.take i))
      ⟨a, pen.same (same_upd hlB), Int.le_refl _, by omega, But.same (same_upd hlB), [], upd_same, .nil⟩ (fun i H' _ z => ?_) ?_ ?_⟩
    · obtain ⟨_, _, _, _, b, _⟩ := z
      exact SqL.of (b _ _ rq rd)
    · rintro i v H2 hvx ⟨a', p2, g1, g2, b2, acc, q2, al2⟩
      obtain ⟨p, hp, pa, rfl, pq⟩ := al.at hvx
      have htk : ps.take (i + 1) = ps.take i ++ [p] := by rw [List.take_add_one, hp]; rfl
      have hix := (List.getElem?_eq_some_iff.mp hp).1
      have hla := al2.len
      rw [List.length_take] at hla
      have pq2 := b2 _ _ pq (pen.dnt pq)
      have lBd : lB ≠ d := p2.dne q2
      refine ⟨rfl, iteT (B := False) ?_⟩
      refine ⟨_, rfl, d, l, a', 2, rfl, p2, by omega, by decide, by decide, fun rr a3 H3 r0 r1 g3 g4 p3 b3 => ?_⟩
      have b03 := b2.trans b3
      have q3 := keepL p2 b3 q2
      have pq3 := keepT p2 b3 pq2
      have al3 : All2 (HanA H lB H3) acc (ps.take i) := All2.mono (fun _ _ ⟨t, e, z⟩ => ⟨t, e, z.imp (keepT p2 b3) fun ⟨z1, z2, z3⟩ => ⟨z1, z2, keepL p2 b3 z3⟩⟩) al2
      have fin : ∀ (t : Addr) (H4 : Hp), Same H3 H4 → (H4 t = some (.tup p.vals) ∨ (H t = none ∧ t ≠ lB ∧ H4 t = some (.lst p.vals))) → ∃ acc, H4 lB = some (.lst acc) ∧ acc.length < sizeLine ∧ ∃ a', Pen (upd H4 lB (.lst (acc ++ [.ref t]))) d l a' ∧ a ≤ a' ∧ a' ≤ a + ((i + 1 : Nat) : Int) ∧ But d H (upd H4 lB (.lst (acc ++ [.ref t]))) ∧ ∃ acc', (upd H4 lB (.lst (acc ++ [.ref t]))) lB = some (.lst acc') ∧ All2 (HanA H lB (upd H4 lB (.lst (acc ++ [.ref t])))) acc' (ps.take (i + 1)) := fun t H4 s4 ht => by
        have q4 := s4 _ _ q3
        have p4 := p3.same s4
        obtain ⟨cs, bb, z1, z2, z3⟩ := p4
        have lBl : l ≠ lB := fun e => by
          obtain ⟨_, _, _, y2, _⟩ := pen
          rw [e, hlB] at y2
          cases y2
        have mv : ∀ c u, H4 c = some u → c ≠ lB → (upd H4 lB (.lst (acc ++ [.ref t]))) c = some u := fun c u z n => by rw [upd_ne n]; exact z
        refine ⟨acc, q4, by have := sizeLine_eq; omega, a3, ⟨cs, bb, mv _ _ z1 (fun e => lBd e.symm), mv _ _ z2 lBl, z3⟩, by omega, by push_cast; omega, fun c o z n => ?_, _, upd_same, ?_⟩
        · exact mv _ _ (s4 _ _ (b03 _ _ z n)) (ne_of_none z hlB)
        · rw [htk]
          have tn : ∀ {c : Addr} {zs : List V}, H4 c = some (.tup zs) → c ≠ lB := fun z e => by rw [e, q4] at z; cases z
          refine (All2.mono (fun _ _ ⟨c, e, z⟩ => ⟨c, e, z.imp (fun z => mv _ _ (s4 _ _ z) (tn (s4 _ _ z))) fun ⟨y1, y2, y3⟩ => ⟨y1, y2, mv _ _ (s4 _ _ y3) y2⟩⟩) al3).snoc ⟨t, rfl, ?_⟩
          · exact ht.imp (fun z => mv _ _ z (tn z)) fun ⟨y1, y2, y3⟩ => ⟨y1, y2, mv _ _ y3 y2⟩
      refine ⟨rfl, _, rfl, ifQ (fun e => ?_) (fun e => ?_)⟩
      · refine ⟨_, rfl, pa, _, rfl, .inr (SqT.of pq3), fun nl hnl => fin nl _ (same_upd hnl) (.inr ⟨?_, ?_, upd_same⟩)⟩
        · cases z : H nl with
          | none => rfl
          | some u =>
            by_cases hd : nl = d
            · obtain ⟨_, _, y1, _⟩ := p3
              rw [hd, y1] at hnl
              cases hnl
            · rw [b03 _ _ z hd] at hnl
              cases hnl
        · exact fun e => by rw [e, q3] at hnl; cases hnl
      · exact ⟨_, rfl, fin pa H3 (Same.refl _) (.inl pq3)⟩
    rintro H2 ⟨a', p2, g1, g2, b2, acc, q2, al2⟩
    rw [List.take_of_length_le (by omega)] at al2
    dsimp only [tNext, gName]
    have lBd : lB ≠ d := p2.dne q2
    have lBl : l ≠ lB := fun e => by
      obtain ⟨_, _, _, y2, _⟩ := pen
      rw [e, hlB] at y2
      cases y2
    have ll0 : ∀ t, H t = none → t ≠ l := fun t z e => by
      obtain ⟨_, _, _, y2, _⟩ := pen
      rw [e, y2] at z
      cases z
    have lac := al2.len
    refine ⟨_, rfl, fun x dx nx ndx nex => ?_⟩
    refine mkDaysF (.inl q2) (All2.mono (fun _ _ ⟨t, e, z⟩ => ⟨t, e, z.elim .inr fun y => .inl y.2.2⟩) al2) hg hf (by omega) nx ndx fun H3 s3 d3 => ⟨rfl, ?_⟩
    have p3 := p2.same s3
    have b3 := b2.trans (But.same s3)
    have q3 := s3 _ _ q2
    have al3 : ∀ (v : V), v ∈ acc → HanB H lB (3 + 0) H3 v := fun v hv => by
      obtain ⟨i, hi⟩ := List.mem_iff_getElem?.mp hv
      obtain ⟨p, hp, t, e, z⟩ := al2.at hi
      have h3 := p.flat.2
      have h2 : 2 ≤ p.vals.length := by
        unfold Pc.vals
        split <;> simp
      exact ⟨t, e, z.imp (fun z => ⟨_, s3 _ _ z⟩) fun ⟨y1, y2, y3⟩ => ⟨y1, y2, _, s3 _ _ y3, h2, by omega⟩⟩
    dsimp only [tNext, gName]
    refine ⟨_, rfl, lB, rfl, ⟨_, SqL.of q3⟩, for_list (xs := acc) (fun i σ H' => ∃ (v2 : Option V), σ = [some (.ref d), some (.ref r), v2, some (.ref lB), some (.ref x)] ∧ Pen H' d l a' ∧ But d H H' ∧ DayA K H' x ps ∧ H' lB = some (.lst acc) ∧ ∀ v ∈ acc.drop i, HanB H lB (3 + i) H' v)
      ⟨_, rfl, p3, b3, d3, q3, al3⟩ (fun i σ H' _ z => ?_) ?_ ?_⟩
    · obtain ⟨_, _, _, _, _, q, _⟩ := z
      exact SqL.of q
    · rintro i v σ H4 hvi ⟨v2, rfl, p4, b4, d4, q4, hB⟩
      have hdr : acc.drop i = v :: acc.drop (i + 1) := by
        rw [List.drop_eq_getElem_cons (List.getElem?_eq_some_iff.mp hvi).1, (List.getElem?_eq_some_iff.mp hvi).2]
      have hix := (List.getElem?_eq_some_iff.mp hvi).1
      obtain ⟨t, rfl, ht⟩ := hB v (by rw [hdr]; exact List.mem_cons_self)
      have hB' : ∀ v ∈ acc.drop (i + 1), HanB H lB (3 + i) H4 v := fun v hv => hB v (by rw [hdr]; exact List.mem_cons_of_mem _ hv)
      rcases ht with ⟨ys, tq⟩ | ⟨t0, tB, ys, tq, y2, yn⟩
      · refine ⟨_, rfl, .ref t, .ty "list", .type "tuple", .type "list", false, rfl, .ty _, .base (.tup tq), kit_ty (by decide +kernel), false, rfl, ifN rfl ?_⟩
        exact ⟨_, rfl, p4, b4, d4, q4, fun v hv => (hB' v hv).elim fun t z => ⟨t, z.1, z.2.imp id fun y => ⟨y.1, y.2.1, y.2.2.elim fun ys w => ⟨ys, w.1, w.2.1, by omega⟩⟩⟩⟩
      · refine ⟨_, rfl, .ref t, .ty "list", .type "list", .type "list", true, rfl, .ty _, .base (.lst tq), kit_ty (by decide +kernel), true, rfl, ifB rfl ?_⟩
        have ix1 : ixN ys.length 1 = some 1 := Evl.ixN_nat (n := ys.length) (j := 1) (by omega)
        refine ⟨_, _, rfl, rfl, ⟨by decide, by decide, by decide⟩, _, rfl, t, _, _, 1, rfl, rfl, tq, ix1, ?_⟩
        refine ⟨_, rfl, tyL upd_same, t, _, _, rfl, rfl, upd_same, by rw [List.length_set, sizeLine_eq]; omega, ?_⟩
        rw [upd_upd]
        have tl := ll0 t t0
        have td : t ≠ d := p4.dne tq
        have mv : ∀ c u, H4 c = some u → c ≠ t → ∀ zs, (upd H4 t (.lst zs)) c = some u := fun c u z n zs => by rw [upd_ne n]; exact z
        obtain ⟨cs, bb, z1, z2, z3⟩ := p4
        refine ⟨_, rfl, ⟨cs, bb, mv _ _ z1 (fun e => td e.symm) _, mv _ _ z2 (fun e => tl e.symm) _, z3⟩, fun c o z n => ?_, d4.updL tq, mv _ _ q4 (fun e => tB e.symm) _, fun v hv => ?_⟩
        · exact mv _ _ (b4 _ _ z n) (ne_of_none z t0) _
        · obtain ⟨t', e', ht'⟩ := hB' v hv
          refine ⟨t', e', ?_⟩
          by_cases et : t' = t
          · subst et
            exact .inr ⟨t0, tB, _, upd_same, by rw [List.length_append, List.length_set]; simp; omega, by rw [List.length_append, List.length_set]; simp; omega⟩
          · rcases ht' with ⟨ys', z⟩ | ⟨w1, w2, ys', w3, w4, w5⟩
            · exact .inl ⟨ys', mv _ _ z et _⟩
            · exact .inr ⟨w1, w2, ys', mv _ _ w3 et _, w4, by omega⟩
    · rintro σ H4 ⟨v2, rfl, p4, b4, d4, q4, _⟩
      refine ⟨_, rfl, tyL q4, (by show 3 ≤ sizeLine; decide), fun t ht => ?_⟩
      have sT := same_upd (o := HO.tup [.str "every", .int 0, .int 1]) ht
      have q5 := sT _ _ q4
      refine ⟨lB, _, _, rfl, rfl, q5, by rw [sizeLine_eq]; omega, ?_⟩
      have p5 := p4.same sT
      have d5 := d4.same sT
      obtain ⟨cs, bb, z1, z2, z3⟩ := p5
      have mv : ∀ c u, (upd H4 t (HO.tup [.str "every", .int 0, .int 1])) c = some u → c ≠ lB → ∀ zs, (upd (upd H4 t (HO.tup [.str "every", .int 0, .int 1])) lB (.lst zs)) c = some u := fun c u z n zs => by rw [upd_ne n]; exact z
      refine ⟨_, rfl, k x a' _ g1 (by omega) ⟨cs, bb, mv _ _ z1 (fun e => lBd e.symm) _, mv _ _ z2 lBl _, z3⟩ (fun c o z n => ?_) (d5.updL q5)⟩
      exact mv _ _ (sT _ _ (b4 _ _ z n)) (ne_of_none z hlB) _
end
end Wd
end
section
set_option Elab.async false
set_option linter.all false
set_option maxRecDepth 100000
set_option maxHeartbeats 2000000
set_option pp.maxSteps 900
/-! ### sums of two rows that begin at 0 (pure) -/
namespace Wd
open PySem PySem.Spec PyProof.Rows L2 Wt TL NumText
def upC (c : Int) : List Pc := [⟨.up, 0, c⟩]
theorem upC_good {c : Int} (hc : 1 ≤ c) : ∀ p ∈ upC c, p.good := fun p hp => by
  rw [List.mem_singleton.mp hp]
  exact fun _ => hc
theorem inU {c y : Int} (hc : 1 ≤ c) : inPs (upC c) y = true ↔ ∃ t : Int, 0 ≤ t ∧ y = c * t := by
  rw [inPs_iff]
  constructor
  · rintro ⟨p, hp, h⟩
    rw [List.mem_singleton.mp hp] at h
    obtain ⟨t, h1, h2⟩ := (inP_iff (p := ⟨.up, 0, c⟩) (by show Kd.up ≠ Kd.one; decide) (fun _ => hc) _).mp h
    have h2 : y = 0 + c * t := h2
    exact ⟨t, h1, by omega⟩
  · rintro ⟨t, h1, rfl⟩
    refine ⟨⟨.up, 0, c⟩, List.mem_singleton.mpr rfl, (inP_iff (p := ⟨.up, 0, c⟩) (by show Kd.up ≠ Kd.one; decide) (fun _ => hc) _).mpr ⟨t, h1, ?_⟩⟩
    show c * t = 0 + c * t
    omega
def Two (a b d : Int) : Prop := ∃ i j : Int, 0 ≤ i ∧ 0 ≤ j ∧ d = a * i + b * j
theorem wide_two {a b : Int} (ha : 1 ≤ a) (hb : 1 ≤ b) (d : Int) : (∃ y, inPs (upC a) y = true ∧ inPs (upC b) (d - y) = true) ↔ Two a b d := by
  constructor
  · rintro ⟨y, h1, h2⟩
    obtain ⟨i, hi, rfl⟩ := (inU ha).mp h1
    obtain ⟨j, hj, e⟩ := (inU hb).mp h2
    exact ⟨i, j, hi, hj, by omega⟩
  · rintro ⟨i, j, hi, hj, rfl⟩
    exact ⟨a * i, (inU ha).mpr ⟨i, hi, rfl⟩, (inU hb).mpr ⟨j, hj, by omega⟩⟩
theorem wide_due {a b : Int} (ha : 1 ≤ a) (hb : 1 ≤ b) (d : Int) : Two a b d ↔ ∃ k : Nat, k < b.toNat ∧ a * (k : Int) ≤ d ∧ (d - a * (k : Int)) % b = 0 := by
  constructor
  · rintro ⟨i, j, hi, hj, rfl⟩
    have e0 := Int.emod_nonneg i (show b ≠ 0 by omega)
    have e1 := Int.emod_lt_of_pos i (show 0 < b by omega)
    have e2 := Int.emod_add_mul_ediv i b
    have e3 : 0 ≤ i / b := Int.ediv_nonneg hi (by omega)
    have e4 : a * i + b * j - a * (i % b) = b * (a * (i / b) + j) := by
      have e5 : a * i = a * (i % b) + a * (b * (i / b)) := by rw [← Int.mul_add, e2]
      rw [Int.mul_add, e5, ← Int.mul_assoc, ← Int.mul_assoc, Int.mul_comm a b]
      omega
    have e6 : 0 ≤ b * (a * (i / b) + j) := Int.mul_nonneg (by omega) (by have := Int.mul_nonneg (show 0 ≤ a by omega) e3; omega)
    have ek : (((i % b).toNat : Nat) : Int) = i % b := by omega
    refine ⟨(i % b).toNat, by omega, ?_, ?_⟩
    · rw [ek]
      omega
    · rw [ek, e4]
      exact Int.mul_emod_right _ _
  · rintro ⟨k, hk, h1, h2⟩
    obtain ⟨t, ht⟩ := dvd_param h2
    exact ⟨k, t, by omega, (mul_pos_iff hb).mp (by omega), by omega⟩
theorem two_nonneg {a b d : Int} (ha : 1 ≤ a) (hb : 1 ≤ b) (h : Two a b d) : 0 ≤ d := by
  obtain ⟨i, j, hi, hj, rfl⟩ := h
  have := Int.mul_nonneg (show 0 ≤ a by omega) hi
  have := Int.mul_nonneg (show 0 ≤ b by omega) hj
  omega
theorem inP_self {p : Pc} (g : p.good) : inP p p.a = true := by
  by_cases h : p.k = .one
  · exact (inP_one h _).mpr rfl
  · refine (inP_iff h g _).mpr ⟨0, ?_, by omega⟩
    cases hk : p.k <;> first | exact absurd hk h | exact Int.le_refl 0 | exact trivial
theorem le_sum {rs : List Pc} {p : Pc} (h : p ∈ rs) : p.a.natAbs ≤ (rs.map fun p => p.a.natAbs).sum := by
  induction rs with
  | nil => exact absurd h List.not_mem_nil
  | cons q r ih =>
    rw [List.map_cons, List.sum_cons]
    rcases List.mem_cons.mp h with rfl | h
    · omega
    · have := ih h
      omega
theorem wide_ends {a b : Int} (ha : 1 ≤ a) (hb : 1 ≤ b) {rs : List Pc} (g : ∀ p ∈ rs, p.good) (h : ∀ d, inPs rs d = true ↔ Two a b d) : leastS rs = some 0 ∧ loS rs = false ∧ hiS rs = true := by
  have lo : loS rs = false := by
    cases e : loS rs with
    | false => rfl
    | true =>
      unfold loS at e
      obtain ⟨p, hp, hk⟩ := List.any_eq_true.mp e
      rw [Bool.or_eq_true, decide_eq_true_iff, decide_eq_true_iff] at hk
      have n1 : p.k ≠ .one := by rcases hk with z | z <;> rw [z] <;> decide
      have gs := g p hp n1
      have hi : inP p (p.a + p.s * (-(p.a.natAbs + 1 : Int))) = true := by
        refine (inP_iff n1 (g p hp) _).mpr ⟨_, ?_, rfl⟩
        rcases hk with z | z
        · rw [z]
          show -(p.a.natAbs + 1 : Int) ≤ 0
          omega
        · rw [z]
          exact trivial
      have := two_nonneg ha hb ((h _).mp (inPs_iff.mpr ⟨p, hp, hi⟩))
      have e2 : (p.a.natAbs + 1 : Int) ≤ p.s * (p.a.natAbs + 1 : Int) := by
        have := Int.mul_le_mul_of_nonneg_right gs (show 0 ≤ (p.a.natAbs + 1 : Int) by omega)
        omega
      rw [Int.mul_neg] at this
      omega
  refine ⟨?_, lo, ?_⟩
  · unfold leastS
    rw [lo, if_neg Bool.false_ne_true]
    obtain ⟨q, hq, hi⟩ := inPs_iff.mp ((h 0).mpr ⟨0, 0, Int.le_refl _, Int.le_refl _, by omega⟩)
    have q0 : q.a ≤ 0 := by
      by_cases k1 : q.k = .one
      · have := (inP_one k1 _).mp hi
        omega
      · obtain ⟨t, ht, e⟩ := (inP_iff k1 (g q hq) _).mp hi
        have nl : ¬ (q.k = .dn ∨ q.k = .ev) := fun z => by
          have : loS rs = true := List.any_eq_true.mpr ⟨q, hq, by rw [Bool.or_eq_true, decide_eq_true_iff, decide_eq_true_iff]; exact z⟩
          rw [lo] at this
          cases this
        cases hk : q.k with
        | one => exact absurd hk k1
        | dn => exact absurd (.inl hk) nl
        | ev => exact absurd (.inr hk) nl
        | up =>
          rw [hk] at ht
          have := (mul_pos_iff (g q hq k1)).mpr ht
          omega
    have hm : q.a ∈ rs.map (·.a) := List.mem_map.mpr ⟨q, hq, rfl⟩
    cases e : minO (rs.map (·.a)) with
    | none => rw [minO_none e] at hm; exact absurd hm List.not_mem_nil
    | some d =>
      obtain ⟨h1, h2⟩ := minO_some e
      obtain ⟨p, hp, rfl⟩ := List.mem_map.mp h1
      have := two_nonneg ha hb ((h _).mp (inPs_iff.mpr ⟨p, hp, inP_self (g p hp)⟩))
      have := h2 _ hm
      rw [show p.a = 0 from by omega]
  · have big : Two a b (a * ((rs.map fun p => p.a.natAbs).sum + 1 : Nat)) := ⟨(((rs.map fun p => p.a.natAbs).sum + 1 : Nat) : Int), 0, by omega, Int.le_refl _, by omega⟩
    obtain ⟨q, hq, hi⟩ := inPs_iff.mp ((h _).mpr big)
    have hs := le_sum hq
    have hge : (((rs.map fun p => p.a.natAbs).sum + 1 : Nat) : Int) ≤ a * ((rs.map fun p => p.a.natAbs).sum + 1 : Nat) := by
      have := Int.mul_le_mul_of_nonneg_right ha (show 0 ≤ (((rs.map fun p => p.a.natAbs).sum + 1 : Nat) : Int) by omega)
      omega
    refine List.any_eq_true.mpr ⟨q, hq, ?_⟩
    rw [Bool.or_eq_true, decide_eq_true_iff, decide_eq_true_iff]
    by_cases k1 : q.k = .one
    · have := (inP_one k1 _).mp hi
      omega
    · obtain ⟨t, ht, e⟩ := (inP_iff k1 (g q hq) _).mp hi
      cases hk : q.k with
      | one => exact absurd hk k1
      | up => exact .inl rfl
      | ev => exact .inr rfl
      | dn =>
        rw [hk] at ht
        have := (mul_npos_iff (g q hq k1)).mpr ht
        omega
def dueW (a b d : Int) : Bool := (List.range b.toNat).any fun k => decide (a * (k : Int) ≤ d) && decide ((d - a * (k : Int)) % b = 0)
theorem dueW_iff {a b : Int} (ha : 1 ≤ a) (hb : 1 ≤ b) {rs : List Pc} (h : ∀ d, inPs rs d = true ↔ Two a b d) (d : Int) : dueW a b d = inPs rs d := by
  rw [Bool.eq_iff_iff, h, wide_due ha hb]
  unfold dueW
  rw [List.any_eq_true]
  constructor
  · rintro ⟨k, hk, e⟩
    rw [Bool.and_eq_true, decide_eq_true_iff, decide_eq_true_iff] at e
    exact ⟨k, List.mem_range.mp hk, e.1, e.2⟩
  · rintro ⟨k, hk, e1, e2⟩
    exact ⟨k, List.mem_range.mpr hk, by rw [Bool.and_eq_true, decide_eq_true_iff, decide_eq_true_iff]; exact ⟨e1, e2⟩⟩
end Wd
end
section
set_option Elab.async false
set_option linter.all false
set_option maxRecDepth 100000
set_option maxHeartbeats 2000000
set_option pp.maxSteps 900
/-! ### sums with wide steps -/
namespace Wd
open PySem PySem.Spec PyProof.Rows L2 Wt TL NumText
def spLWide : Sp := fun vs H Q _ => ∃ (d l : Addr) (a : Int), vs = [.ref d] ∧ Pen H d l a ∧ a ≤ 1000 ∧ ∀ a' H', a ≤ a' → a' ≤ a + 10 → Pen H' d l a' → But d H H' → Q (.bl true) H'
structure TmS (K : PySem.W.Frag) : Prop where
  sf : PySem.W.selfFirst K (He.ga K "Days") = true
section
variable {P : Program} {w : World} {K : PySem.W.Frag} {mg : Str → Option Value} {base : Heap} {f : Addr} {fd : FuncData} {CQ : Addr}
theorem upC_vals (c : Int) : (Pc.mk .up 0 c).vals = [.str "up", .int 0, .int c] := rfl
theorem mkUp {K : PySem.W.Frag} {CQ : Addr} {Hb : Hp} {l t x dx : Addr} {c : Int} {Q : VK} {E : XK} (hq : Hb l = some (.lst [.ref t])) (tq : Hb t = some (.tup [.str "up", .int 0, .int c])) (hc : 1 ≤ c) (nx : Hb x = none) (ndx : Hb dx = none)
    (k : ∀ H', Same Hb H' → DayA K H' x (upC c) → Q .non H') : spDaysI K CQ [.ref x, .ref l] (upd (upd Hb dx (.own x)) x (.ins (He.ga K "Days") dx [])) Q E :=
  mkDaysF (ps := upC c) (.inl hq) (.cons ⟨t, rfl, .inr (by rw [upC_vals]; exact tq)⟩ .nil) (upC_good hc) (Few.one c fun p hp _ => by rw [List.mem_singleton.mp hp]) (by show 1 ≤ 1000; decide) nx ndx k
theorem DayA.ins {K : PySem.W.Frag} {H : Hp} {x : Addr} {ps : List Pc} (h : DayA K H x ps) : ∃ dx fs, H x = some (.ins (He.ga K "Days") dx fs) := by
  obtain ⟨dx, po, o, u, n, e, st, xs, okv, ns, h1, _⟩ := h.ex
  exact ⟨dx, _, h1⟩
theorem DayA.fld {K : PySem.W.Frag} {H : Hp} {x : Addr} {ps : List Pc} (h : DayA K H x ps) (m : Str) (hm : m ∈ (["least", "greatest", "goes_down", "goes_up", "next_from", "next_to", "moved"] : List Str)) : ∃ dx fs, H x = some (.ins (He.ga K "Days") dx fs) ∧ fs.lookup m = none := by
  obtain ⟨dx, po, o, u, n, e, st, xs, okv, ns, h1, _⟩ := h.ex
  refine ⟨dx, _, h1, ?_⟩
  simp only [List.mem_cons, List.not_mem_nil, or_false] at hm
  rcases hm with rfl | rfl | rfl | rfl | rfl | rfl | rfl <;> rfl
structure DLWide (P : Program) (w : World) (K : PySem.W.Frag) (mg : Str → Option Value) (base : Heap) (CQ : Addr) : Prop where
  mkD : Mk K (He.ga K "Days") (He.ma K (He.ga K "Days") "__init__")
  iniD : ∃ fd, FnOk P w K mg base (L2.CX P w) 3 (He.ma K (He.ga K "Days") "__init__") fd ["self", "pieces"] (spDaysI K CQ) ∧ Binds K fd ["self", "pieces"] []
  law_draw : Df P w K mg base CX0 1 "_law_draw" ["_law_pen_here", "_law_many"] spDraw
  add : Md P w K mg base (He.ga K "Days") CX0 5 "__add__" ["self", "other"] (spAdd K)
  con : Md P w K mg base (He.ga K "Days") CX0 2 "__contains__" ["self", "day"] (spCont2 K)
  any : mg "any" = none
theorem scLWide : FnScope ["_law_pen_here", "_law_one", "_law_other", "_law_total", "_law_last", "_law_day", "_law_due", "_law_k"] ["_law_pen_here"] (defScope (top i__law_wide_right)) := ⟨rfl, rfl, rfl, by decide +kernel, rfl, by decide +kernel, by decide +kernel⟩
theorem ok_lwide (F : FnG K "_law_wide_right" i__law_wide_right f fd) (T : Tx K mg) (TS : TmS K) (TP : TmP K) (DC : DCon P w K mg base) (D : DLWide P w K mg base CQ) : FnOk P w K mg base CX0 6 f fd ["_law_pen_here"] spLWide := by
  refine F.ok scLWide (fun vs H Q E h => ?_) (fun cdv A outer s H vs Q E hr h => ?_)
  · obtain ⟨d, l, a, rfl, _⟩ := h
    rfl
  · obtain ⟨d, l, a, rfl, pen, ha, k⟩ := h
    have hu := hu_of hr
    obtain ⟨fdD, GD, bD⟩ := D.iniD
    obtain ⟨_, _, _, pL⟩ := TP.leastP (P := P) (w := w) (base := base) T DC
    obtain ⟨_, _, _, pD⟩ := TP.goesD (P := P) (w := w) (base := base) T DC
    obtain ⟨_, _, _, pU⟩ := TP.goesU (P := P) (w := w) (base := base) T DC
    refine ⟨_, PSs.nox (pss_cons (ps_asg (pe_tup (pa_cons (pe_op op_add pe_int (pe_cd D.law_draw (hr.mono (by decide)) pass0 (pa_cons (pv 0) (pa_cons pe_int pa_nil)))) (pa_cons (pe_op op_add pe_int (pe_cd D.law_draw (hr.mono (by decide)) pass0 (pa_cons (pv 0) (pa_cons pe_int pa_nil)))) pa_nil))) (pg_tup rfl (pgs_cons (pg_name (i := 1) scLWide.nd rfl (Or.inr rfl)) (pgs_cons (pg_name (i := 2) scLWide.nd rfl (Or.inr rfl)) pgs_nil))))
        (pss_cons (ps_set (i := 3) scLWide.nd rfl (Or.inl rfl) (pe_op (op_binS D.add (hr.mono (by decide)) TS.sf pass0) (pe_make (E := fun _ _ _ => False) D.mkD GD (hr.mono (by decide)) rfl T.Days bD .nil passF (pa_cons (pe_lst (pa_cons (pe_tup (pa_cons pe_str (pa_cons pe_int (pa_cons (pv 1) pa_nil)))) pa_nil)) pa_nil)) (pe_make (E := fun _ _ _ => False) D.mkD GD (hr.mono (by decide)) rfl T.Days bD .nil passF (pa_cons (pe_lst (pa_cons (pe_tup (pa_cons pe_str (pa_cons pe_int (pa_cons (pv 2) pa_nil)))) pa_nil)) pa_nil))))
        (pss_cons (ps_if (PW.pt (pw_or (pt_cmpR op_ne (pe_prop (pv 3) T.cl pL.1 pL.2.1 (hr.mono (by decide)) pL.2.2 .nil pass0 rfl) pe_int (nomark _)) (pw_or (pt_val (pe_prop (pv 3) T.cl pD.1 pD.2.1 (hr.mono (by decide)) pD.2.2 .nil pass0 rfl)) (pw_or1 (pt_not (pt_val (pe_prop (pv 3) T.cl pU.1 pU.2.1 (hr.mono (by decide)) pU.2.2 .nil pass0 rfl))))))) (pss_one (ps_ret pe_bl)) pss_nil)
        (pss_cons (ps_set (i := 4) scLWide.nd rfl (Or.inl rfl) (pe_op op_sub (pe_op op_sub (pe_op op_mul (pv 1) (pv 2)) (pv 1)) (pv 2)))
        (pss_cons (ps_for PassesOwn.never rfl (pi_tup (pe_tup (pa_cons (pv 4) (pa_cons (pe_op op_add (pv 4) pe_int) (pa_cons (pe_op op_add (pv 4) (pe_cd D.law_draw (hr.mono (by decide)) pass0 (pa_cons (pv 0) (pa_cons pe_int pa_nil)))) (pa_cons (pe_callB call_abs (by rfl) T.abs (by decide +kernel) (pa_cons (pe_op op_sub (pv 4) (pe_cd D.law_draw (hr.mono (by decide)) pass0 (pa_cons (pv 0) (pa_cons pe_int pa_nil)))) pa_nil)) pa_nil)))))) (pg_name (i := 5) scLWide.nd rfl (Or.inr rfl)) (pss_cons (ps_set (i := 6) scLWide.nd rfl (Or.inl rfl) (pe_callB (cr_any rfl) (by rfl) D.any (by decide +kernel) (pa_cons (pe_lc (own := [("_law_k", 7)]) rfl scLWide.nd (pi_range1 (by rfl) T.range (pa_cons (pv 2) pa_nil)) (blkOk_by (own := [("_law_k", 7)]) (N := ["_law_pen_here", "_law_one", "_law_other", "_law_total", "_law_last", "_law_day", "_law_due", "_law_k"]) (sc := defScope (top i__law_wide_right)) (by decide +kernel)) (fun _ _ _ _ _ => (pg_name (i := 7) scLWide.nd rfl (Or.inl rfl))) (fun _ _ _ _ _ => pts_nil) (fun _ _ _ _ _ => (pe_and (pe_cmpR op_ge (pv 5) (pe_op op_mul (pv 1) (pv 7)) (nomark _)) (pe_one (pe_cmpR op_eq (pe_op op_mod (pe_callTy call_int1 (by rfl) T.int (by decide +kernel) (pa_cons (pe_op op_sub (pv 5) (pe_op op_mul (pv 1) (pv 7))) pa_nil)) (pv 2)) pe_int (nomark _)))))) pa_nil)))
        (pss_one (ps_if (pt_cmpR op_ne (pe_cmpR (op_inOwn D.con (hr.mono (by decide)) pass0) (pv 5) (pv 3) (by rfl)) (pv 6) (nomark _)) (pss_one (ps_ret pe_bl)) pss_nil))))
        (pss_one (ps_ret pe_bl))))))), ?_⟩
    refine ⟨_, rfl, d, l, a, 1000, rfl, pen, by omega, by decide, by decide, fun v1 a1 H1 v0 v1' g1 g2 p1 b1 => ?_⟩
    refine ⟨_, _, rfl, rfl, _, rfl, d, l, a1, 1000, rfl, p1, by omega, by decide, by decide, fun v2 a2 H2 w0 w1 g3 g4 p2 b2 => ?_⟩
    refine ⟨_, _, rfl, rfl, (by show 2 ≤ sizeLine; decide), fun t ht => ⟨t, _, rfl, SqT.of upd_same, rfl, _, _, rfl, _, _, rfl, rfl, ?_⟩⟩
    have b02 := (b1.trans b2).trans (But.same (same_upd (o := HO.tup [V.int (1 + v1), V.int (1 + v2)]) ht))
    have p3 := p2.same (same_upd (o := HO.tup [V.int (1 + v1), V.int (1 + v2)]) ht)
    dsimp only [gName]
    generalize upd H2 t (HO.tup [V.int (1 + v1), V.int (1 + v2)]) = H3 at b02 p3 ⊢
    clear p2 p1 b1 b2 ht
    obtain ⟨c1, e1⟩ : ∃ c1, c1 = 1 + v1 := ⟨_, rfl⟩
    obtain ⟨c2, e2⟩ : ∃ c2, c2 = 1 + v2 := ⟨_, rfl⟩
    rw [← e1, ← e2]
    have h11 : 1 ≤ c1 := by omega
    have h12 : c1 ≤ 1000 := by omega
    have h21 : 1 ≤ c2 := by omega
    have h22 : c2 ≤ 1000 := by omega
    refine ⟨_, rfl, (by show 3 ≤ sizeLine; decide), fun t1 ht1 => ⟨(by show 1 ≤ sizeLine; decide), fun l1 hl1 => fun x1 dx1 nx1 ndx1 ne1 => ?_⟩⟩
    have sA := (same_upd (o := HO.tup [.str "up", .int 0, .int c1]) ht1).trans (same_upd (o := HO.lst [.ref t1]) hl1)
    refine mkUp (c := c1) upd_same (same_upd hl1 _ _ upd_same) h11 nx1 ndx1 fun H4 s4 d4 => ⟨rfl, ?_⟩
    have s34 := sA.trans s4
    refine ⟨_, rfl, (by show 3 ≤ sizeLine; decide), fun t2 ht2 => ⟨(by show 1 ≤ sizeLine; decide), fun l2 hl2 => fun x2 dx2 nx2 ndx2 ne2 => ?_⟩⟩
    have sB := (same_upd (o := HO.tup [.str "up", .int 0, .int c2]) ht2).trans (same_upd (o := HO.lst [.ref t2]) hl2)
    refine mkUp (c := c2) upd_same (same_upd hl2 _ _ upd_same) h21 nx2 ndx2 fun H5 s5 d5 => ⟨rfl, ?_⟩
    have s45 := sB.trans s5
    have d45 := d4.same s45
    obtain ⟨y1, f1, i1⟩ := d45.ins
    obtain ⟨y2, f2, i2⟩ := d5.ins
    refine ⟨x1, y1, f1, x2, y2, f2, rfl, rfl, i1, i2, x1, x2, upC c1, upC c2, 1000, 0, rfl, d45, d5, AddOk.single h11 h21 h12 h22, fun x rs H6 s6 d6 len6 sem => ?_⟩
    have s36 := (s34.trans s45).trans s6
    have p6 := p3.same s36
    have b6 := b02.trans (But.same s36)
    have two : ∀ d, inPs rs d = true ↔ Two c1 c2 d := fun d => (sem d).trans (wide_two h11 h21 d)
    obtain ⟨eL, eD, eU⟩ := wide_ends h11 h21 d6.gd two
    clear d4 d5 d45 i1 i2 p3 b02 s36 s6 s45 s34 sA sB s4 s5 hl1 hl2 ht1 ht2 sem
    dsimp only [tNext, gName]
    obtain ⟨z1, g1', i6⟩ := d6.ins
    refine ⟨_, rfl, x, z1, g1', rfl, i6, x, rs, rfl, d6, len6, fun H7 s7 => ?_⟩
    rw [eL]
    refine ⟨rfl, _, rfl, ifN rfl ⟨_, rfl, x, z1, g1', rfl, s7 _ _ i6, x, rs, rfl, d6.same s7, len6, fun H8 s8 => ?_⟩⟩
    rw [eD]
    have s68 := s7.trans s8
    refine ⟨_, rfl, ifN rfl ⟨_, rfl, x, z1, g1', rfl, s68 _ _ i6, x, rs, rfl, d6.same s68, len6, fun H9 s9 => ?_⟩⟩
    rw [eU]
    have s69 := s68.trans s9
    have p9 := p6.same s69
    have d9 := d6.same s69
    have b9 := b6.trans (But.same s69)
    refine ⟨_, rfl, ifN rfl ?_⟩
    clear p6 b6 s68 s7 s8 s9 i6 d6
    dsimp only [tNext, gName]
    have m1 : c1 * c2 ≤ 1000000 := by
      have := Int.mul_le_mul h12 h22 (by omega) (by omega)
      omega
    have m0 : 1 ≤ c1 * c2 := by
      have := Int.mul_le_mul h11 h21 (by omega) (by omega)
      omega
    refine ⟨_, rfl, _, rfl, _, _, rfl, rfl, .inl ⟨by omega, by omega⟩, _, rfl, _, _, rfl, rfl, _, rfl, _, _, rfl, rfl, ?_⟩
    dsimp only [tNext, gName]
    generalize c1 * c2 - c1 - c2 = last
    -- the four days
    refine ⟨_, rfl, _, rfl, _, _, rfl, rfl, _, rfl, _, rfl, d, l, a2, 50, rfl, p9, by omega, by decide, by decide, fun v3 a3 HA w2 w3 g5 g6 pA bA => ?_⟩
    refine ⟨_, _, rfl, rfl, _, rfl, _, rfl, d, l, a3, 2000, rfl, pA, by omega, by decide, by decide, fun v4 a4 HB w4 w5 g7 g8 pB bB => ?_⟩
    refine ⟨_, _, rfl, rfl, _, rfl, (by show 4 ≤ sizeLine; decide), fun tt htt => ?_⟩
    have dB := (d9.but p9 bA).but pA bB
    generalize hHC : upd HB tt _ = HC
    have sT : Same HB HC := by
      rw [← hHC]
      exact same_upd htt
    have tq : HC tt = some (.tup ([last, last + 1, last + v3, if last - v4 < 0 then -(last - v4) else last - v4].map V.int)) := by
      rw [← hHC]
      exact upd_same
    have bb := ((b9.trans bA).trans bB).trans (But.same sT)
    have pC := pB.same sT
    have dC := dB.same sT
    clear hHC
    clear dB bA bB pA pB b9 d9 p9 htt
    generalize [last, last + 1, last + v3, if last - v4 < 0 then -(last - v4) else last - v4] = days at tq
    refine ⟨tt, rfl, ⟨_, SqT.of tq⟩, for_tup (xs := days.map V.int) (fun i σ H' => ∃ (x5 x6 : Option V), σ = [some (.ref d), some (.int c1), some (.int c2), some (.ref x), some (.int last), x5, x6, none] ∧ Same HC H')
      ⟨_, _, rfl, Same.refl _⟩ (fun i σ H' _ z => ?_) ?_ ?_⟩
    · obtain ⟨_, _, _, z⟩ := z
      exact SqT.of (z _ _ tq)
    · rintro i v σ HD hvx ⟨x5, x6, rfl, sD⟩
      obtain ⟨dd, hdd, rfl⟩ : ∃ dd, days[i]? = some dd ∧ V.int dd = v := by
        rw [List.getElem?_map] at hvx
        exact Option.map_eq_some_iff.mp hvx
      have rtk : ∀ j : Nat, j < c2.toNat → ((List.range c2.toNat).map fun (k : Nat) => decide (c1 * (k : Int) ≤ dd) && decide ((dd - c1 * (k : Int)) % c2 = 0)).take (j + 1) = ((List.range c2.toNat).map fun (k : Nat) => decide (c1 * (k : Int) ≤ dd) && decide ((dd - c1 * (k : Int)) % c2 = 0)).take j ++ [decide (c1 * (j : Int) ≤ dd) && decide ((dd - c1 * (j : Int)) % c2 = 0)] := fun j hj => by
        rw [← List.map_take, take_range_succ _ _ hj, List.map_append, List.map_take]
        rfl
      refine ⟨_, rfl, c2, rfl, by omega, by omega, fun lB hlB => lc_range (lo := 0) (n := c2.toNat) (fun j H' => Same HD H' ∧ H' lB = some (.lst ((((List.range c2.toNat).map fun (k : Nat) => decide (c1 * (k : Int) ≤ dd) && decide ((dd - c1 * (k : Int)) % c2 = 0)).take j).map V.bl))) ⟨same_upd hlB, upd_same⟩ (fun j HE hj z => ?_) ?_⟩
      · obtain ⟨sE, qE⟩ := z
        refine ⟨rfl, iteT (B := False) ?_⟩
        have jb : (0 : Int) + (j : Int) = j := by omega
        have fin : ∀ b, b = (decide (c1 * (j : Int) ≤ dd) && decide ((dd - c1 * (j : Int)) % c2 = 0)) → ∃ acc, HE lB = some (.lst acc) ∧ acc.length < sizeLine ∧ Same HD (upd HE lB (.lst (acc ++ [V.bl b]))) ∧ (upd HE lB (.lst (acc ++ [V.bl b]))) lB = some (.lst ((((List.range c2.toNat).map fun (k : Nat) => decide (c1 * (k : Int) ≤ dd) && decide ((dd - c1 * (k : Int)) % c2 = 0)).take (j + 1)).map V.bl)) := fun b e => by
          refine ⟨_, qE, by rw [List.length_map, List.length_take, List.length_map, List.length_range, sizeLine_eq]; omega, fun c o zz => ?_, ?_⟩
          · rw [upd_ne (ne_of_none zz hlB)]
            exact sE _ _ zz
          · rw [upd_same, rtk j hj, List.map_append, e]
            rfl
        refine ⟨_, rfl, _, rfl, _, rfl, _, _, rfl, rfl, .inl ⟨by omega, by omega⟩, _, _, rfl, rfl, _, rfl, ?_⟩
        rw [jb]
        cases hb : decide (c1 * (j : Int) ≤ dd) with
        | false => exact ifN rfl (fin _ (by rw [hb]; rfl))
        | true =>
          refine ifB rfl ⟨_, rfl, _, rfl, _, rfl, _, _, rfl, rfl, .inl ⟨by omega, by omega⟩, _, _, rfl, rfl, .inl ⟨_, rfl, _, rfl, _, _, rfl, rfl, by omega, rfl, fin _ ?_⟩⟩
          rw [hb, Bool.true_and]
          exact decide_eq_decide.mpr ⟨fun z => V.int.inj z, fun z => congrArg V.int z⟩
      · rintro HE ⟨sE, qE⟩
        rw [List.take_of_length_le (by rw [List.length_map, List.length_range]; exact Nat.le_refl _)] at qE
        refine ⟨lB, _, rfl, SqL.of qE, ?_⟩
        dsimp only [tNext, gName]
        have eW : (((List.range c2.toNat).map fun (k : Nat) => decide (c1 * (k : Int) ≤ dd) && decide ((dd - c1 * (k : Int)) % c2 = 0)).any id) = inPs rs dd := by
          rw [List.any_map]
          exact dueW_iff h11 h21 two dd
        rw [eW]
        have sCE := sD.trans sE
        have dE := dC.same sCE
        obtain ⟨z2, g2', i2⟩ := dE.ins
        refine ⟨_, rfl, _, rfl, x, z2, g2', rfl, i2, x, rs, .int dd, rfl, dE, .inl ⟨dd, rfl, fun HF sF => ⟨_, rfl, _, rfl, rfl, _, rfl, ifN ?_ ?_⟩⟩⟩
        · rw [decide_eq_true (show V.bl (id (inPs rs dd)) = V.bl (inPs rs dd) from rfl)]
          rfl
        · exact ⟨_, _, rfl, sCE.trans sF⟩
    · rintro σ HD ⟨x5, x6, rfl, sD⟩
      exact k a4 HD (by omega) (by omega) (pC.same sD) (bb.trans (But.same sD))
end
end Wd
end
section
set_option Elab.async false
set_option linter.all false
set_option maxRecDepth 100000
set_option maxHeartbeats 2000000
set_option pp.maxSteps 900
/-! ### the next members of a drawn set; pieces as data (pure) -/
namespace Wd
open PySem PySem.Spec PyProof.Rows L2 Wt TL NumText
def abvS (ps : List Pc) (low : Int) : List Int := (mems ps 80).filter fun x => decide (low ≤ x)
def blwS (ps : List Pc) (low : Int) : List Int := (mems ps 80).filter fun x => decide (x ≤ low)
theorem mems_sorted (ps : List Pc) (far : Int) : (mems ps far).Pairwise (· < ·) := (farR_sorted far).sublist List.filter_sublist
theorem head_least {L : List Int} (h : L.Pairwise (· < ·)) {d : Int} (hd : d ∈ L) (hl : ∀ x ∈ L, d ≤ x) : L.head? = some d := by
  cases L with
  | nil => exact absurd hd List.not_mem_nil
  | cons x r =>
    have h1 := hl x List.mem_cons_self
    rcases List.mem_cons.mp hd with rfl | z
    · rfl
    · have := (List.pairwise_cons.mp h).1 d z
      omega
theorem last_great {L : List Int} (h : L.Pairwise (· < ·)) {d : Int} (hd : d ∈ L) (hl : ∀ x ∈ L, x ≤ d) : ∃ r, L = r ++ [d] := by
  rcases List.eq_nil_or_concat L with e | ⟨r, x, e⟩
  · rw [e] at hd
    exact absurd hd List.not_mem_nil
  · rw [List.concat_eq_append] at e
    subst e
    have h1 := hl x (List.mem_append_right _ List.mem_cons_self)
    rcases List.mem_append.mp hd with z | z
    · have := (List.pairwise_append.mp h).2.2 d z x List.mem_cons_self
      omega
    · rw [List.mem_singleton.mp z]
      exact ⟨r, rfl⟩
theorem abv_head {ps : List Pc} (hd : ∀ p ∈ ps, PcD p) {low : Int} (h1 : -30 ≤ low) (h2 : low ≤ 30) : (abvS ps low).head? = fromS ps low := by
  have g : ∀ p ∈ ps, p.good := fun p hp => (hd p hp).good
  have mem : ∀ x, x ∈ abvS ps low ↔ ((-80 ≤ x ∧ x ≤ 80) ∧ inPs ps x = true) ∧ low ≤ x := fun x => by
    unfold abvS
    rw [List.mem_filter, mem_mems, decide_eq_true_iff]
  cases e : fromS ps low with
  | none =>
    have : abvS ps low = [] := List.eq_nil_iff_forall_not_mem.mpr fun x hx => by
      have := (mem x).mp hx
      have := fromS_none g e x this.1.2
      omega
    rw [this]
    rfl
  | some d =>
    obtain ⟨a1, a2, a3, p, hp, a4⟩ := fromS_some g e
    have b := hd p hp
    have hd80 : -80 ≤ d ∧ d ≤ 80 := by
      rcases a4 with z | ⟨n, z⟩
      · have := b.2.1
        have := b.1
        omega
      · have := b.2.2 n
        omega
    exact head_least ((mems_sorted ps 80).sublist List.filter_sublist) ((mem d).mpr ⟨⟨hd80, a1⟩, a2⟩) fun x hx => a3 x ((mem x).mp hx).1.2 ((mem x).mp hx).2
theorem blw_last {ps : List Pc} (hd : ∀ p ∈ ps, PcD p) {low : Int} (h1 : -30 ≤ low) (h2 : low ≤ 30) : (blwS ps low = [] ∧ toS ps low = none) ∨ ∃ r d, blwS ps low = r ++ [d] ∧ toS ps low = some d := by
  have g : ∀ p ∈ ps, p.good := fun p hp => (hd p hp).good
  have mem : ∀ x, x ∈ blwS ps low ↔ ((-80 ≤ x ∧ x ≤ 80) ∧ inPs ps x = true) ∧ x ≤ low := fun x => by
    unfold blwS
    rw [List.mem_filter, mem_mems, decide_eq_true_iff]
  cases e : toS ps low with
  | none =>
    refine .inl ⟨List.eq_nil_iff_forall_not_mem.mpr fun x hx => ?_, rfl⟩
    have := (mem x).mp hx
    have := toS_none g e x this.1.2
    omega
  | some d =>
    obtain ⟨a1, a2, a3, p, hp, a4⟩ := toS_some g e
    have b := hd p hp
    have hd80 : -80 ≤ d ∧ d ≤ 80 := by
      rcases a4 with z | ⟨n, z⟩
      · have := b.2.1
        have := b.1
        omega
      · have := b.2.2 n
        omega
    obtain ⟨r, hr⟩ := last_great ((mems_sorted ps 80).sublist List.filter_sublist) ((mem d).mpr ⟨⟨hd80, a1⟩, a2⟩) fun x hx => a3 x ((mem x).mp hx).1.2 ((mem x).mp hx).2
    exact .inr ⟨r, d, hr, rfl⟩
/-- a piece as data -/
def pcD (p : Pc) : PyData := if p.k = .one then .tuple [.str "one", .int p.a] else .tuple [.str p.k.w, .int p.a, .int p.s]
theorem pcD_dp {K : PySem.W.Frag} {H : Hp} {v : V} {p : Pc} (h : PcA H v p) : Dp K H v (pcD p) := by
  obtain ⟨a, rfl, e⟩ := h
  unfold pcD
  by_cases k : p.k = .one
  · have ev : p.vals = [.str "one", .int p.a] := if_pos k
    rw [if_pos k]
    rw [ev] at e
    exact .tup (SqT.of e) (.cons (.str _) (.cons (.int _) .nil))
  · have ev : p.vals = [.str p.k.w, .int p.a, .int p.s] := if_neg k
    rw [if_neg k]
    rw [ev] at e
    exact .tup (SqT.of e) (.cons (.str _) (.cons (.int _) (.cons (.int _) .nil)))
theorem pcsD_dp {K : PySem.W.Frag} {H : Hp} : ∀ {xs : List V} {ps : List Pc}, PcsA H xs ps → DpAll K H xs (ps.map pcD)
  | _, _, .nil => .nil
  | _, _, .cons h t => .cons (pcD_dp h) (pcsD_dp t)
theorem pcD_lay (p : Pc) : (pcD p).canLay0 = true ∧ (pcD p).depth ≤ 1 := by
  have hw : ∀ k : Kd, PyData.strOk k.w = true := fun k => by cases k <;> decide +kernel
  unfold pcD
  split
  · exact ⟨by simp [PyData.canLay0, PyData.canLayAll0]; decide +kernel, by simp [PyData.depth, PyData.depthAll]⟩
  · exact ⟨by simp [PyData.canLay0, PyData.canLayAll0, hw], by simp [PyData.depth, PyData.depthAll]⟩
theorem pcsD_lay : ∀ ps : List Pc, PyData.canLayAll0 (ps.map pcD) = true ∧ PyData.depthAll (ps.map pcD) ≤ 1
  | [] => ⟨rfl, by simp [PyData.depthAll]⟩
  | p :: r => by
    obtain ⟨h1, h2⟩ := pcsD_lay r
    obtain ⟨h3, h4⟩ := pcD_lay p
    refine ⟨by simp [PyData.canLayAll0, h1, h3], ?_⟩
    simp only [List.map_cons, PyData.depthAll]
    omega
theorem eqV_self {x : V} (f : flatV x = true) : eqV x x = true := by
  cases x <;> first | exact absurd f Bool.false_ne_true | simp [eqV]
/-- two tuples of the same flat items -/
def rNeT (K : PySem.W.Frag) : R2 := fun x y H Q => ∃ p q xs, x = .ref p ∧ y = .ref q ∧ SqT K H p xs ∧ SqT K H q xs ∧ xs.all flatV = true ∧ Q (.bl false) H
theorem op_neT {X : Cx} (hu : X.A.units < cLine) : OpR X (compareOp .NotEq) (rNeT X.K) := by
  intro pins s σ H x y v u Q I rx ry h
  obtain ⟨p, q, xs, rfl, rfl, hp, hq, fl, k⟩ := h
  obtain rfl : v = Value.ref p := rx
  obtain rfl : u = Value.ref q := ry
  obtain ⟨us, r1, p1, _⟩ := I.tuple hp
  obtain ⟨ws, r2, p2, _⟩ := I.tuple hq
  have l1 := r1.length
  have l2 := r2.length
  refine SeqAt.RcNeAt.tuples (e := fun _ => true) p1 p2 hu (fun j h1 h2 => ?_) X.prog X.w X.xe _ ?_
  · have h1' : j < us.length := by simpa using h1
    have h2' : j < ws.length := by simpa using h2
    obtain ⟨a, e1, q1⟩ := r1.get (i := j) (x := xs[j]'(by omega)) (List.getElem?_eq_getElem _)
    obtain ⟨b, e2, q2⟩ := r2.get (i := j) (x := xs[j]'(by omega)) (List.getElem?_eq_getElem _)
    rw [List.getElem?_eq_getElem h1'] at e1
    rw [List.getElem?_eq_getElem h2'] at e2
    have f := List.all_eq_true.mp fl (xs[j]'(by omega)) (List.getElem_mem _)
    have := eqAt_V (A := X.A.in1) (s := s) q1 q2 f f
    rw [eqV_self f] at this
    cases e1
    cases e2
    simpa using this
  · have e : (!((List.range (min us.toArray.size ws.toArray.size)).all (fun _ => true) && us.toArray.size == ws.toArray.size)) = false := by
      simp only [List.size_toArray]
      rw [← l1, ← l2]
      simp
    rw [e]
    exact ⟨.bl false, H, I, rfl, k⟩
end Wd
end
section
set_option Elab.async false
set_option linter.all false
set_option maxRecDepth 100000
set_option maxHeartbeats 2000000
set_option pp.maxSteps 900
/-! ### a set is as its pieces tell -/
namespace Wd
open PySem PySem.Spec PyProof.Rows L2 Wt TL NumText
def spLSet (K : PySem.W.Frag) : Sp := fun vs H Q _ => ∃ (d l x r : Addr) (a : Int) (xs : List V) (ps : List Pc), vs = [.ref d, .ref x, .ref r] ∧ Pen H d l a ∧ a ≤ 90000 ∧ DayA K H x ps ∧ H r = some (.lst xs) ∧ PcsA H xs ps ∧ (∀ p ∈ ps, PcD p) ∧ ps.length ≤ 10 ∧
  ∀ a' H', a ≤ a' → a' ≤ a + 2 → Pen H' d l a' → But d H H' → Q (.bl true) H'
theorem DayA.fldN {K : PySem.W.Frag} {H : Hp} {x : Addr} {ps : List Pc} (h : DayA K H x ps) : ∃ dx fs, H x = some (.ins (He.ga K "Days") dx fs) ∧ fs.lookup ("next_from" : Str) = none ∧ fs.lookup ("next_to" : Str) = none := by
  obtain ⟨dx, po, o, u, n, e, st, xs, okv, ns, h1, _⟩ := h.ex
  exact ⟨dx, _, h1, rfl, rfl⟩
theorem ovI_flat (o : Option Int) : flatV (ovI o) = true := by cases o <;> rfl
theorem scal_ov (o o' : Option Int) : scal (ovI o) (ovI o') = true := by cases o <;> cases o' <;> rfl
section
variable {P : Program} {w : World} {K : PySem.W.Frag} {mg : Str → Option Value} {base : Heap} {f : Addr} {fd : FuncData} {CQ : Addr}
structure DLSet (P : Program) (w : World) (K : PySem.W.Frag) (mg : Str → Option Value) (base : Heap) : Prop where
  law_draw : Df P w K mg base CX0 1 "_law_draw" ["_law_pen_here", "_law_many"] spDraw
  law_ends : Df P w K mg base CX0 1 "_law_ends" ["_law_pieces_here"] spLEnds
  law_members : Df P w K mg base CX0 3 "_law_members" ["_law_pieces_here", "_law_far"] spLMem
  law_in_pieces : Df P w K mg base CX0 2 "_law_in_pieces" ["_law_pieces_here", "_law_day"] spLInPs
  con : Md P w K mg base (He.ga K "Days") CX0 2 "__contains__" ["self", "day"] (spCont2 K)
  nfrom : Md P w K mg base (He.ga K "Days") CX0 2 "next_from" ["self", "low"] (spNext K fromS)
  nto : Md P w K mg base (He.ga K "Days") CX0 3 "next_to" ["self", "high"] (spNext K toS)
  any : mg "any" = none
theorem scLSet : FnScope ["_law_pen_here", "_law_days", "_law_pieces_here", "_law_members_here", "_law_low", "_law_above", "_law_below", "_law_day", "_law_odd"] ["_law_pen_here", "_law_days", "_law_pieces_here"] (defScope (top i__law_set_right)) := ⟨rfl, rfl, rfl, by decide +kernel, rfl, by decide +kernel, by decide +kernel⟩
theorem ok_lset (F : FnG K "_law_set_right" i__law_set_right f fd) (T : Tx K mg) (TP : TmP K) (DC : DCon P w K mg base) (D : DLSet P w K mg base) : FnOk P w K mg base CX0 5 f fd ["_law_pen_here", "_law_days", "_law_pieces_here"] (spLSet K) := by
  refine F.ok scLSet (fun vs H Q E h => ?_) (fun cdv A outer s H vs Q E hr h => ?_)
  · obtain ⟨d, l, x, r, a, xs, ps, rfl, _⟩ := h
    rfl
  · obtain ⟨d, l, x, r, a, xs, ps, rfl, pen, ha, da, rq, al, hd, hl, k⟩ := h
    have hu := hu_of hr
    have hu64 := hr.units
    have g : ∀ p ∈ ps, p.good := fun p hp => (hd p hp).good
    have hxl := al.len
    obtain ⟨_, _, _, pL⟩ := TP.leastP (P := P) (w := w) (base := base) T DC
    obtain ⟨_, _, _, pG⟩ := TP.greatP (P := P) (w := w) (base := base) T DC
    obtain ⟨_, _, _, pD⟩ := TP.goesD (P := P) (w := w) (base := base) T DC
    obtain ⟨_, _, _, pU⟩ := TP.goesU (P := P) (w := w) (base := base) T DC
    refine ⟨_, PSs.nox (pss_cons (ps_if (pt_cmpR (op_neD hu64) (pe_fld (pv 1) rfl) (pe_callTy call_tuple_of (by rfl) T.tuple (by decide +kernel) (pa_cons (pv 2) pa_nil)) (nomark _)) (pss_one (ps_ret pe_bl)) pss_nil)
        (pss_cons (ps_if (pt_cmpR (op_neT hr.units0) (pe_tup (pa_cons (pe_prop (pv 1) T.cl pL.1 pL.2.1 (hr.mono (by decide)) pL.2.2 .nil pass0 rfl) (pa_cons (pe_prop (pv 1) T.cl pG.1 pG.2.1 (hr.mono (by decide)) pG.2.2 .nil pass0 rfl) (pa_cons (pe_prop (pv 1) T.cl pD.1 pD.2.1 (hr.mono (by decide)) pD.2.2 .nil pass0 rfl) (pa_cons (pe_prop (pv 1) T.cl pU.1 pU.2.1 (hr.mono (by decide)) pU.2.2 .nil pass0 rfl) pa_nil))))) (pe_cd D.law_ends (hr.mono (by decide)) pass0 (pa_cons (pv 2) pa_nil)) (nomark _)) (pss_one (ps_ret pe_bl)) pss_nil)
        (pss_cons (ps_if (pt_val (pe_callB (cr_any rfl) (by rfl) D.any (by decide +kernel) (pa_cons (pe_lc (own := [("_law_day", 7)]) rfl scLSet.nd (pi_range2 (by rfl) T.range (pa_cons (pe_un un_neg pe_int) (pa_cons pe_int pa_nil))) (blkOk_by (own := [("_law_day", 7)]) (N := ["_law_pen_here", "_law_days", "_law_pieces_here", "_law_members_here", "_law_low", "_law_above", "_law_below", "_law_day", "_law_odd"]) (sc := defScope (top i__law_set_right)) (by decide +kernel)) (fun _ _ _ _ _ => (pg_name (i := 7) scLSet.nd rfl (Or.inl rfl))) (fun _ _ _ _ _ => pts_nil) (fun _ _ _ _ _ => (pe_cmpR op_ne (pe_cmpR (r := rInOwn (He.ga K "Days") (spCont2 K) (fun _ _ _ => False) id) (op_inOwn D.con (hr.mono (by decide)) pass0) (pv 7) (pv 1) (by rfl)) (pe_cd D.law_in_pieces (hr.mono (by decide)) pass0 (pa_cons (pv 2) (pa_cons (pv 7) pa_nil))) (nomark _)))) pa_nil))) (pss_one (ps_ret pe_bl)) pss_nil)
        (pss_cons (ps_set (i := 3) scLSet.nd rfl (Or.inl rfl) (pe_cd D.law_members (hr.mono (by decide)) pass0 (pa_cons (pv 2) (pa_cons pe_int pa_nil))))
        (pss_cons (ps_for PassesOwn.never rfl (pi_tup (pe_tup (pa_cons (pe_op op_sub (pe_cd D.law_draw (hr.mono (by decide)) pass0 (pa_cons (pv 0) (pa_cons pe_int pa_nil))) pe_int) (pa_cons (pe_op op_sub (pe_cd D.law_draw (hr.mono (by decide)) pass0 (pa_cons (pv 0) (pa_cons pe_int pa_nil))) pe_int) pa_nil)))) (pg_name (i := 4) scLSet.nd rfl (Or.inr rfl)) (pss_cons (ps_par (i := 5) (j := 6) (by rfl) scLSet.nd rfl rfl (by decide) rfl rfl (pa_cons (pe_lc (own := [("_law_day", 7)]) rfl scLSet.nd (pi_list (pv 3)) (blkOk_by (own := [("_law_day", 7)]) (N := ["_law_pen_here", "_law_days", "_law_pieces_here", "_law_members_here", "_law_low", "_law_above", "_law_below", "_law_day", "_law_odd"]) (sc := defScope (top i__law_set_right)) (by decide +kernel)) (fun _ _ _ _ _ => (pg_name (i := 7) scLSet.nd rfl (Or.inl rfl))) (fun _ _ _ _ _ => (pts_one (pt_cmpR op_ge (pv 7) (pv 4) (nomark _)))) (fun _ _ _ _ _ => (pv 7))) (pa_cons (pe_lc (own := [("_law_day", 7)]) rfl scLSet.nd (pi_list (pv 3)) (blkOk_by (own := [("_law_day", 7)]) (N := ["_law_pen_here", "_law_days", "_law_pieces_here", "_law_members_here", "_law_low", "_law_above", "_law_below", "_law_day", "_law_odd"]) (sc := defScope (top i__law_set_right)) (by decide +kernel)) (fun _ _ _ _ _ => (pg_name (i := 7) scLSet.nd rfl (Or.inl rfl))) (fun _ _ _ _ _ => (pts_one (pt_cmpR op_le (pv 7) (pv 4) (nomark _)))) (fun _ _ _ _ _ => (pv 7))) pa_nil)) (by rfl))
        (pss_cons (ps_if (pt_cmpR op_ne (pe_md D.nfrom (pv 1) T.cl (hr.mono (by decide)) pass0 (pa_cons (pv 4) pa_nil)) (pe_ifExp (pt_cmpR (op_neD hu64) (pv 5) (pe_lst pa_nil) (nomark _)) (pe_ix ix_list (pv 5) pe_int (fun _ _ => rfl)) pe_non) (nomark _)) (pss_one (ps_ret pe_bl)) pss_nil)
        (pss_one (ps_if (pt_cmpR op_ne (pe_md D.nto (pv 1) T.cl (hr.mono (by decide)) pass0 (pa_cons (pv 4) pa_nil)) (pe_ifExp (pt_cmpR (op_neD hu64) (pv 6) (pe_lst pa_nil) (nomark _)) (pe_ix ix_list (pv 6) (pe_un un_neg pe_int) (fun _ _ => rfl)) pe_non) (nomark _)) (pss_one (ps_ret pe_bl)) pss_nil)))))
        (pss_one (ps_ret (pe_not (pe_callB (cr_any rfl) (by rfl) D.any (by decide +kernel) (pa_cons (pe_lc (own := [("_law_odd", 8)]) rfl scLSet.nd (pi_tup (pe_tup (pa_cons pe_non (pa_cons pe_str (pa_cons pe_bl (pa_cons pe_str (pa_cons (pe_tup (pa_cons pe_int pa_nil)) (pa_cons (pe_lst (pa_cons pe_int pa_nil)) pa_nil)))))))) (blkOk_by (own := [("_law_odd", 8)]) (N := ["_law_pen_here", "_law_days", "_law_pieces_here", "_law_members_here", "_law_low", "_law_above", "_law_below", "_law_day", "_law_odd"]) (sc := defScope (top i__law_set_right)) (by decide +kernel)) (fun _ _ _ _ _ => (pg_name (i := 8) scLSet.nd rfl (Or.inl rfl))) (fun _ _ _ _ _ => pts_nil) (fun _ _ _ _ _ => (pe_cmpR (r := rInOwn (He.ga K "Days") (spCont2 K) (fun _ _ _ => False) id) (op_inOwn D.con (hr.mono (by decide)) pass0) (pv 8) (pv 1) (by rfl)))) pa_nil)))))))))), ?_⟩
    -- the pieces
    obtain ⟨dx, po, o, u, n, e, st, ys, okv, ns, h1, h2, h3, _⟩ := da.ex
    obtain ⟨lay1, lay2⟩ := pcsD_lay ps
    have lay : (PyData.tuple (ps.map pcD)).canLay0 = true := by simp [PyData.canLay0, lay1]
    have shp : SeqAt.shaped (.tuple (ps.map pcD)) = true := sh_of lay (by simp only [PyData.depth]; omega)
    refine ⟨_, rfl, x, _, dx, _, .ref po, rfl, h1, T.cl, T.n1, rfl, _, rfl, r, _, rfl, .inl ⟨SqL.of rq, fun tp htp => ?_⟩⟩
    have s1 := same_upd (o := HO.tup xs) htp
    have tq : (upd H tp (HO.tup xs)) tp = some (.tup xs) := upd_same
    generalize upd H tp (HO.tup xs) = H1 at s1 tq ⊢
    refine ⟨.tuple (ps.map pcD), .tuple (ps.map pcD), .tup (SqT.of (s1 _ _ h2)) (pcsD_dp (h3.same s1)), .tup (SqT.of tq) (pcsD_dp (al.same s1)), shp, shp, _, rfl, ?_⟩
    rw [PySem.SeqAt.eqv_refl _ lay]
    refine ifN rfl ?_
    have d1 := da.same s1
    have r1 := s1 _ _ rq
    have a1 := al.same s1
    have p1 := pen.same s1
    -- the ends
    dsimp only [tNext, gName]
    have i1 := s1 _ _ h1
    refine ⟨_, rfl, x, dx, _, rfl, i1, x, ps, rfl, d1, by omega, fun H2 s2 => ?_⟩
    refine ⟨_, rfl, x, dx, _, rfl, s2 _ _ i1, x, ps, rfl, d1.same s2, by omega, fun H3 s3 => ?_⟩
    have s23 := s2.trans s3
    refine ⟨_, rfl, x, dx, _, rfl, s23 _ _ i1, x, ps, rfl, d1.same s23, by omega, fun H4 s4 => ?_⟩
    have s24 := s23.trans s4
    refine ⟨_, rfl, x, dx, _, rfl, s24 _ _ i1, x, ps, rfl, d1.same s24, by omega, fun H5 s5 => ?_⟩
    have s25 := s24.trans s5
    refine ⟨(by show 4 ≤ sizeLine; decide), fun t1 ht1 => ?_⟩
    have s26 := s25.trans (same_upd (o := HO.tup [ovI (leastS ps), ovI (greatS ps), .bl (loS ps), .bl (hiS ps)]) ht1)
    refine ⟨_, rfl, r, xs, ps, rfl, s26 _ _ r1, a1.same s26, by omega, fun t2 H7 s7 t2q => ?_⟩
    refine ⟨t1, t2, _, rfl, rfl, SqT.of (s7 _ _ upd_same), SqT.of t2q, by simp only [List.all_cons, List.all_nil, ovI_flat]; rfl, _, rfl, ifN rfl ?_⟩
    have s17 := s26.trans s7
    have d7 := d1.same s17
    have r7 := s17 _ _ r1
    have a7 := a1.same s17
    have p7 := p1.same s17
    have b7 : But d H H7 := But.same (s1.trans s17)
    clear d1 r1 a1 p1 s17 s7 s26 s25 s24 s23 s5 s4 s3 s2 t2q ht1 i1 s1 tq htp h1 h2 h3 lay shp lay1 lay2
    dsimp only [tNext, gName]
    -- the days near 0
    refine ⟨80, rfl, -80, 81, rfl, ⟨by omega, by omega, by omega, by omega⟩, fun lB hlB => lc_range (lo := -80) (n := (81 - -80 : Int).toNat) (fun i H' => Same H7 H' ∧ H' lB = some (.lst (List.replicate i (V.bl false)))) ⟨same_upd hlB, upd_same⟩ (fun i H8 hi z => ?_) ?_⟩
    · obtain ⟨s8, q8⟩ := z
      refine ⟨rfl, iteT (B := False) ?_⟩
      have d8 := d7.same s8
      obtain ⟨z1, fs1, i8⟩ := d8.ins
      refine ⟨_, rfl, _, rfl, x, z1, fs1, rfl, i8, x, ps, _, rfl, d8, .inl ⟨_, rfl, fun H9 s9 => ⟨_, rfl, ?_⟩⟩⟩
      have s79 := s8.trans s9
      refine ⟨_, rfl, _, rfl, r, xs, ps, _, rfl, s79 _ _ r7, a7.same s79, g, by omega, fun HA sA => ⟨rfl, ?_⟩⟩
      have e1 : ∀ y : Int, (!decide (V.bl (id (inPs ps y)) = V.bl (inPs ps y))) = false := fun y => by rw [decide_eq_true (show V.bl (id (inPs ps y)) = V.bl (inPs ps y) from rfl)]; rfl
      rw [e1]
      refine ⟨_, sA _ _ (s9 _ _ q8), by rw [List.length_replicate, sizeLine_eq]; omega, fun c o zz => ?_, by rw [upd_same, List.replicate_succ']⟩
      rw [upd_ne (ne_of_none zz hlB)]
      exact sA _ _ (s79 _ _ zz)
    rintro H8 ⟨s8, q8⟩
    have q8 : H8 lB = some (.lst ((List.replicate (81 - -80 : Int).toNat false).map V.bl)) := by rw [List.map_replicate]; exact q8
    refine ⟨lB, _, rfl, SqL.of q8, _, rfl, ?_⟩
    have eF : (List.replicate (81 - -80 : Int).toNat false).any id = false := by simp
    rw [eF]
    refine ifN rfl ?_
    dsimp only [tNext, gName]
    refine ⟨_, rfl, r, xs, ps, 80, rfl, s8 _ _ r7, a7.same s8, g, by omega, by omega, by omega, fun m H9 s9 mq => ?_⟩
    have s79 := s8.trans s9
    have d9 := d7.same s79
    have p9 := p7.same s79
    have b9 := b7.trans (But.same s79)
    dsimp only [tNext, gName]
    clear d7 r7 a7 p7 b7 s8 q8 s79 s9 hlB
    refine ⟨_, rfl, d, l, a, 61, rfl, p9, by omega, by decide, by decide, fun v1 a1 HA w0 w1 g1 g2 pA bA => ?_⟩
    refine ⟨_, _, rfl, rfl, _, rfl, d, l, a1, 61, rfl, pA, by omega, by decide, by decide, fun v2 a2 HB w2 w3 g3 g4 pB bB => ?_⟩
    refine ⟨_, _, rfl, rfl, (by show 2 ≤ sizeLine; decide), fun tt htt => ?_⟩
    generalize hHC : upd HB tt _ = HC
    have sT : Same HB HC := by
      rw [← hHC]
      exact same_upd htt
    obtain ⟨lows, hlows⟩ : ∃ lows, lows = [v1 - 30, v2 - 30] := ⟨_, rfl⟩
    have tq : HC tt = some (.tup (lows.map V.int)) := by
      rw [← hHC, hlows]
      exact upd_same
    have lowb : ∀ y ∈ lows, -30 ≤ y ∧ y ≤ 30 := fun y hy => by
      rw [hlows] at hy
      simp only [List.mem_cons, List.not_mem_nil, or_false] at hy
      omega
    have pC := pB.same sT
    have bC := ((b9.trans bA).trans bB).trans (But.same sT)
    have dC := ((d9.but p9 bA).but pA bB).same sT
    have mC := sT _ _ (keepL pA bB (keepL p9 bA mq))
    clear hHC hlows d9 b9 p9 mq pA bA pB bB sT htt
    refine ⟨tt, rfl, ⟨_, SqT.of tq⟩, for_tup (xs := lows.map V.int) (fun i σ H' => ∃ (x4 x5 x6 : Option V), σ = [some (.ref d), some (.ref x), some (.ref r), some (.ref m), x4, x5, x6, none, none] ∧ Same HC H')
      ⟨_, _, _, rfl, Same.refl _⟩ (fun i σ H' _ z => ?_) ?_ ?_⟩
    · obtain ⟨_, _, _, _, z⟩ := z
      exact SqT.of (z _ _ tq)
    · rintro i v σ HD hvx ⟨x4, x5, x6, rfl, sD⟩
      obtain ⟨low, hlow, rfl⟩ : ∃ low, lows[i]? = some low ∧ V.int low = v := by
        rw [List.getElem?_map] at hvx
        exact Option.map_eq_some_iff.mp hvx
      obtain ⟨lo1, lo2⟩ := lowb low (List.mem_of_getElem? hlow)
      have mD := sD _ _ mC
      have lenM : (mems ps 80).length ≤ 161 := by
        unfold mems
        refine Nat.le_trans (List.length_filter_le _ _) ?_
        unfold farR
        rw [List.length_map, List.length_range]
        decide
      refine ⟨_, rfl, m, rfl, ⟨_, SqL.of mD⟩, fun lA hlA => lc_list (xs := (mems ps 80).map V.int) (fun j H' => Same HD H' ∧ H' lA = some (.lst ((((mems ps 80).take j).filter fun y => decide (low ≤ y)).map V.int))) ⟨same_upd hlA, upd_same⟩ (fun j H' _ z => SqL.of (z.1 _ _ mD)) ?_ ?_⟩
      · rintro j v HE hvj ⟨sE, qE⟩
        obtain ⟨y, hy, rfl⟩ : ∃ y, (mems ps 80)[j]? = some y ∧ V.int y = v := by
          rw [List.getElem?_map] at hvj
          exact Option.map_eq_some_iff.mp hvj
        have htk : (mems ps 80).take (j + 1) = (mems ps 80).take j ++ [y] := by rw [List.take_add_one, hy]; rfl
        refine ⟨rfl, _, rfl, _, rfl, _, _, rfl, rfl, _, rfl, ?_⟩
        rw [htk, List.filter_append]
        cases e : decide (low ≤ y) with
        | true =>
          have e1 : [y].filter (fun y => decide (low ≤ y)) = [y] := by rw [List.filter_cons, if_pos e]; rfl
          rw [e1]
          have := List.length_filter_le (fun y => decide (low ≤ y)) ((mems ps 80).take j)
          rw [List.length_take] at this
          refine ifB rfl ⟨_, rfl, _, qE, by rw [List.length_map, sizeLine_eq]; omega, fun c o zz => ?_, by rw [upd_same, List.map_append]; rfl⟩
          rw [upd_ne (ne_of_none zz hlA)]
          exact sE _ _ zz
        | false =>
          have e1 : [y].filter (fun y => decide (low ≤ y)) = [] := by rw [List.filter_cons, if_neg (by rw [e]; exact Bool.false_ne_true)]; rfl
          rw [e1, List.append_nil]
          exact ifN rfl ⟨sE, qE⟩
      rintro HE ⟨sE, qE⟩
      rw [List.take_of_length_le (by rw [List.length_map]; exact Nat.le_refl _)] at qE
      have qE : HE lA = some (.lst ((abvS ps low).map V.int)) := qE
      have mE := sE _ _ mD
      refine ⟨_, rfl, m, rfl, ⟨_, SqL.of mE⟩, fun lB hlB => lc_list (xs := (mems ps 80).map V.int) (fun j H' => Same HE H' ∧ H' lB = some (.lst ((((mems ps 80).take j).filter fun y => decide (y ≤ low)).map V.int))) ⟨same_upd hlB, upd_same⟩ (fun j H' _ z => SqL.of (z.1 _ _ mE)) ?_ ?_⟩
      · rintro j v HF hvj ⟨sF, qF⟩
        obtain ⟨y, hy, rfl⟩ : ∃ y, (mems ps 80)[j]? = some y ∧ V.int y = v := by
          rw [List.getElem?_map] at hvj
          exact Option.map_eq_some_iff.mp hvj
        have htk : (mems ps 80).take (j + 1) = (mems ps 80).take j ++ [y] := by rw [List.take_add_one, hy]; rfl
        refine ⟨rfl, _, rfl, _, rfl, _, _, rfl, rfl, _, rfl, ?_⟩
        rw [htk, List.filter_append]
        cases e : decide (y ≤ low) with
        | true =>
          have e1 : [y].filter (fun y => decide (y ≤ low)) = [y] := by rw [List.filter_cons, if_pos e]; rfl
          rw [e1]
          have := List.length_filter_le (fun y => decide (y ≤ low)) ((mems ps 80).take j)
          rw [List.length_take] at this
          refine ifB rfl ⟨_, rfl, _, qF, by rw [List.length_map, sizeLine_eq]; omega, fun c o zz => ?_, by rw [upd_same, List.map_append]; rfl⟩
          rw [upd_ne (ne_of_none zz hlB)]
          exact sF _ _ zz
        | false =>
          have e1 : [y].filter (fun y => decide (y ≤ low)) = [] := by rw [List.filter_cons, if_neg (by rw [e]; exact Bool.false_ne_true)]; rfl
          rw [e1, List.append_nil]
          exact ifN rfl ⟨sF, qF⟩
      rintro HF ⟨sF, qF⟩
      rw [List.take_of_length_le (by rw [List.length_map]; exact Nat.le_refl _)] at qF
      have qF : HF lB = some (.lst ((blwS ps low).map V.int)) := qF
      have qA := sF _ _ qE
      have sCF := (sD.trans sE).trans sF
      have dF := dC.same sCF
      refine ⟨_, _, rfl, ?_⟩
      dsimp only [tNext, gName]
      clear mE mD qE sE sF sD hlA hlB
      have nilv : ∀ {H6 : Hp} {ls t : Addr} {ns : List Int}, H6 ls = some (.lst (ns.map V.int)) → H6 t = some (.lst []) → ∃ d e, Dp K H6 (.ref ls) d ∧ Dp K H6 (.ref t) e ∧ SeqAt.shaped d = true ∧ SeqAt.shaped e = true ∧ (PyData.eqv d e = decide (ns = [])) := fun {H6 ls t ns} lq tq => by
        refine ⟨.list (ns.map .int), .list [], .lst (SqL.of lq) (dp_ints ns), .lst (SqL.of tq) .nil, shaped_ints0 ns, shaped_ints0 [], ?_⟩
        cases ns with
        | nil => exact eqv_nil
        | cons x r => exact eqv_cons _ _
      obtain ⟨z1, fs1, i1, n1, n2⟩ := dF.fldN
      refine seq_by (fun σ' H' => σ' = [some (.ref d), some (.ref x), some (.ref r), some (.ref m), some (.int low), some (.ref lA), some (.ref lB), none, none] ∧ Same HF H') (fun Nx hN => ?_) ?_
      · refine ⟨_, rfl, x, z1, fs1, rfl, i1, n1, _, rfl, x, ps, low, rfl, dF, by omega, fun HG sG => ?_⟩
        show tIf _ _ _ _ _ _
        refine viaE (W := fun v H' => v = ovI (fromS ps low) ∧ Same HF H') (fun Q' hQ => ?_) (fun v1 HH wH => ?_)
        · refine ⟨_, rfl, Nat.zero_le _, fun t ht => ?_⟩
          have sGt := sG.trans (same_upd (o := HO.lst []) ht)
          obtain ⟨dd, ee, q1, q2, q3, q4, q5⟩ := nilv (sGt _ _ qA) (upd_same (a := t) (o := HO.lst []) (H := HG))
          refine ⟨dd, ee, q1, q2, q3, q4, _, rfl, ?_⟩
          rw [q5]
          have hh := abv_head hd lo1 lo2
          cases hL : abvS ps low with
          | nil =>
            rw [hL] at hh
            refine ifN (by rw [decide_eq_true rfl]; rfl) (hQ _ _ ⟨?_, sGt⟩)
            rw [← hh]
            rfl
          | cons y r0 =>
            rw [hL] at hh
            refine ifB (by rw [decide_eq_false (fun z => by cases z)]; rfl) ⟨_, rfl, lA, _, _, .int y, rfl, rfl, SqL.of (sGt _ _ qA), (show atI ((abvS ps low).map V.int) ((0 : Nat) : Int) = _ from atI_nat (by rw [hL]; rfl)), hQ _ _ ⟨?_, sGt⟩⟩
            rw [← hh]
            rfl
        · obtain ⟨rfl, sH⟩ := wH
          refine ⟨scal_ov _ _, _, rfl, ifN (by rw [decide_eq_true rfl]; rfl) (hN _ _ ⟨rfl, sH⟩)⟩
      · rintro _ HI ⟨rfl, sI⟩
        refine ⟨_, rfl, x, z1, fs1, rfl, sI _ _ i1, n2, _, rfl, x, ps, low, rfl, dF.same sI, by omega, fun HG sG => ?_⟩
        show tIf _ _ _ _ _ _
        have sIG := sI.trans sG
        refine viaE (W := fun v H' => v = ovI (toS ps low) ∧ Same HF H') (fun Q' hQ => ?_) (fun v1 HH wH => ?_)
        · refine ⟨_, rfl, Nat.zero_le _, fun t ht => ?_⟩
          have sGt := sIG.trans (same_upd (o := HO.lst []) ht)
          obtain ⟨dd, ee, q1, q2, q3, q4, q5⟩ := nilv (sGt _ _ qF) (upd_same (a := t) (o := HO.lst []) (H := HG))
          refine ⟨dd, ee, q1, q2, q3, q4, _, rfl, ?_⟩
          rw [q5]
          rcases blw_last hd lo1 lo2 with ⟨hL, ht'⟩ | ⟨r0, y, hL, ht'⟩
          · refine ifN (by rw [decide_eq_true hL]; rfl) (hQ _ _ ⟨?_, sGt⟩)
            rw [ht']
            rfl
          · refine ifB (by rw [decide_eq_false (fun z => by rw [hL] at z; exact absurd z (by simp))]; rfl) ⟨_, rfl, _, rfl, lB, _, _, .int y, rfl, rfl, SqL.of (sGt _ _ qF), ?_, hQ _ _ ⟨?_, sGt⟩⟩
            · rw [hL, List.map_append]
              exact atI_last _ _
            · rw [ht']
              rfl
        · obtain ⟨rfl, sH⟩ := wH
          refine ⟨scal_ov _ _, _, rfl, ifN (by rw [decide_eq_true rfl]; rfl) ⟨_, _, _, rfl, sCF.trans sH⟩⟩
    · rintro σ HD ⟨x4, x5, x6, rfl, sD⟩
      -- what is no whole number
      refine ⟨(by show 1 ≤ sizeLine; decide), fun t1 ht1 => ⟨(by show 1 ≤ sizeLine; decide), fun l1 hl1 => ⟨(by show 6 ≤ sizeLine; decide), fun t2 ht2 => ?_⟩⟩⟩
      have sX := ((same_upd (o := HO.tup [.int 1]) ht1).trans (same_upd (o := HO.lst [.int 0]) hl1)).trans (same_upd (o := HO.tup [.non, .str "1", .bl true, .str "up", .ref t1, .ref l1]) ht2)
      have q1 : (upd (upd (upd HD t1 (HO.tup [.int 1])) l1 (HO.lst [.int 0])) t2 (HO.tup [.non, .str "1", .bl true, .str "up", .ref t1, .ref l1])) t1 = some (.tup [.int 1]) := same_upd ht2 _ _ (same_upd hl1 _ _ upd_same)
      have q2 : (upd (upd (upd HD t1 (HO.tup [.int 1])) l1 (HO.lst [.int 0])) t2 (HO.tup [.non, .str "1", .bl true, .str "up", .ref t1, .ref l1])) l1 = some (.lst [.int 0]) := same_upd ht2 _ _ upd_same
      have q3 : (upd (upd (upd HD t1 (HO.tup [.int 1])) l1 (HO.lst [.int 0])) t2 (HO.tup [.non, .str "1", .bl true, .str "up", .ref t1, .ref l1])) t2 = some (.tup [.non, .str "1", .bl true, .str "up", .ref t1, .ref l1]) := upd_same
      generalize upd (upd (upd HD t1 (HO.tup [.int 1])) l1 (HO.lst [.int 0])) t2 (HO.tup [.non, .str "1", .bl true, .str "up", .ref t1, .ref l1]) = HE at sX q1 q2 q3 ⊢
      have dE := dC.same (sD.trans sX)
      refine ⟨t2, rfl, ⟨_, SqT.of q3⟩, fun lB hlB => lc_tup (xs := [.non, .str "1", .bl true, .str "up", .ref t1, .ref l1]) (fun i H' => Same HE H' ∧ H' lB = some (.lst (List.replicate i (V.bl false)))) ⟨same_upd hlB, upd_same⟩ (fun i H' _ z => SqT.of (z.1 _ _ q3)) ?_ ?_⟩
      · rintro i v HF hvx ⟨sF, qF⟩
        refine ⟨rfl, iteT (B := False) ?_⟩
        have dF := dE.same sF
        obtain ⟨z1, fs1, i1⟩ := dF.ins
        have hv : IntB HF v false := by
          have hm := List.mem_of_getElem? hvx
          simp only [List.mem_cons, List.not_mem_nil, or_false] at hm
          rcases hm with rfl | rfl | rfl | rfl | rfl | rfl
          · exact .non
          · exact .str _
          · exact .bl _
          · exact .str _
          · exact .tup (sF _ _ q1)
          · exact .lst (sF _ _ q2)
        have hi6 := (List.getElem?_eq_some_iff.mp hvx).1
        have hi6 : i < 6 := hi6
        refine ⟨_, rfl, _, rfl, x, z1, fs1, rfl, i1, x, ps, v, rfl, dF, .inr ⟨hv, fun HG sG => ⟨_, rfl, ?_⟩⟩⟩
        refine ⟨_, sG _ _ qF, by rw [List.length_replicate, sizeLine_eq]; omega, fun c o zz => ?_, by rw [upd_same, List.replicate_succ']; rfl⟩
        rw [upd_ne (ne_of_none zz hlB)]
        exact sG _ _ (sF _ _ zz)
      · rintro HF ⟨sF, qF⟩
        have qF : HF lB = some (.lst ((List.replicate 6 false).map V.bl)) := by rw [List.map_replicate]; exact qF
        refine ⟨lB, _, rfl, SqL.of qF, _, rfl, ?_⟩
        have sCF := (sD.trans sX).trans sF
        exact k a2 HF (by omega) (by omega) (pC.same sCF) (bC.trans (But.same sCF))
end
end Wd
end
section
set_option Elab.async false
set_option linter.all false
set_option maxRecDepth 100000
set_option maxHeartbeats 4000000
set_option pp.maxSteps 900
/-! ### the law of sets of days -/
namespace Wd
open PySem PySem.Spec PyProof.Rows L2 Wt TL NumText
def spLaw (K : PySem.W.Frag) : Sp := fun vs H Q _ => ∃ (a : Addr) (ns : List Int), vs = [.ref a] ∧ SqL K H a (ns.map V.int) ∧ ns.length ≤ 63 ∧ ∀ H', Q (.bl true) H'
theorem nine_of {ps : List Pc} (h : ∀ p ∈ ps, PcD p) : Nine ps := fun p hp n => (h p hp).2.2 n
theorem sumOk_of {ps : List Pc} (h : ∀ p ∈ ps, PcD p) (hl : ps.length ≤ 7) : SumOk ps := ⟨hl, fun p hp => by
  obtain ⟨h1, h2, h3⟩ := h p hp
  exact ⟨(h p hp).good, by omega, by omega, fun n => by have := h3 n; omega⟩⟩
/-- a sum near 0 is met by a member of the first set that is not far away -/
theorem near_any {ps qs : List Pc} (hp : ∀ p ∈ ps, PcD p) (hq : ∀ p ∈ qs, PcD p) {d : Int} (h1 : -45 ≤ d) (h2 : d ≤ 45) {b : Bool} (hb : b = true ↔ ∃ y, inPs ps y = true ∧ inPs qs (d - y) = true) : ((mems ps 200).map fun y => inPs qs (d - y)).any id = b := by
  rw [Bool.eq_iff_iff, hb, List.any_map, List.any_eq_true]
  constructor
  · rintro ⟨y, hy, e⟩
    exact ⟨y, (mem_mems.mp hy).2, e⟩
  · rintro ⟨y, e1, e2⟩
    obtain ⟨p, hpm, e3⟩ := inPs_iff.mp e1
    obtain ⟨q, hqm, e4⟩ := inPs_iff.mp e2
    obtain ⟨y', g1, g2, g3, g4⟩ := sum_near (m := p) (y := q) (hp p hpm) (hq q hqm) ⟨h1, h2⟩ e3 e4
    exact ⟨y', mem_mems.mpr ⟨⟨g1, g2⟩, inPs_iff.mpr ⟨p, hpm, g3⟩⟩, inPs_iff.mpr ⟨q, hqm, g4⟩⟩
theorem inDay {K : PySem.W.Frag} {H : Hp} {x : Addr} {ps : List Pc} (da : DayA K H x ps) (y : Int) {Q : V → Hp → Prop} (h : ∀ H', Same H H' → Q (.bl (inPs ps y)) H') : rInOwn (He.ga K "Days") (spCont2 K) E0 id (.int y) (.ref x) H Q := by
  obtain ⟨z, fs, i⟩ := da.ins
  exact ⟨x, z, fs, rfl, i, x, ps, .int y, rfl, da, .inl ⟨y, rfl, fun H' s => ⟨_, rfl, h H' s⟩⟩⟩
theorem ne_self (b : Bool) : (!decide (V.bl b = V.bl b)) = false := by rw [decide_eq_true rfl]; rfl
section
variable {P : Program} {w : World} {K : PySem.W.Frag} {mg : Str → Option Value} {base : Heap} {f : Addr} {fd : FuncData} {CQ : Addr}
structure DLaw (P : Program) (w : World) (K : PySem.W.Frag) (mg : Str → Option Value) (base : Heap) (CQ : Addr) : Prop where
  mkD : Mk K (He.ga K "Days") (He.ma K (He.ga K "Days") "__init__")
  iniD : ∃ fd, FnOk P w K mg base (L2.CX P w) 3 (He.ma K (He.ga K "Days") "__init__") fd ["self", "pieces"] (spDaysI K CQ) ∧ Binds K fd ["self", "pieces"] []
  law_pen : Df P w K mg base CX0 1 "_law_pen" ["_law_script"] (spPen K)
  law_draw : Df P w K mg base CX0 1 "_law_draw" ["_law_pen_here", "_law_many"] spDraw
  law_pick : Df P w K mg base CX0 2 "_law_pick" ["_law_pen_here", "_law_some"] (spPick K)
  law_pieces : Df P w K mg base CX0 3 "_law_pieces" ["_law_pen_here", "_law_many"] spLPieces
  law_in_pieces : Df P w K mg base CX0 2 "_law_in_pieces" ["_law_pieces_here", "_law_day"] spLInPs
  law_members : Df P w K mg base CX0 3 "_law_members" ["_law_pieces_here", "_law_far"] spLMem
  law_handed : Df P w K mg base CX0 5 "_law_handed" ["_law_pen_here", "_law_pieces_here"] (spLHand K)
  law_set_right : Df P w K mg base CX0 5 "_law_set_right" ["_law_pen_here", "_law_days", "_law_pieces_here"] (spLSet K)
  law_wide_right : Df P w K mg base CX0 6 "_law_wide_right" ["_law_pen_here"] spLWide
  add : Md P w K mg base (He.ga K "Days") CX0 5 "__add__" ["self", "other"] (spAdd K)
  or : Md P w K mg base (He.ga K "Days") CX0 5 "__or__" ["self", "other"] (spOr K)
  moved : Md P w K mg base (He.ga K "Days") CX0 5 "moved" ["self", "many"] (spMoved K)
  con : Md P w K mg base (He.ga K "Days") CX0 2 "__contains__" ["self", "day"] (spCont2 K)
  any : mg "any" = none
theorem scLaw : FnScope ["_law_script", "_law_pen_here", "_law_lap", "_law_pieces_here", "_law_more", "_law_one", "_law_other", "_law_total", "_law_either", "_law_many", "_law_big", "_law_members_here", "_law_back", "_law_moved_far", "_law_day", "_law_part"] ["_law_script"] (defScope (top i_law)) := ⟨rfl, rfl, rfl, by decide +kernel, rfl, by decide +kernel, by decide +kernel⟩
theorem ok_law (F : FnG K "law" i_law f fd) (T : Tx K mg) (TS : TmS K) (D : DLaw P w K mg base CQ) : FnOk P w K mg base CX0 7 f fd ["_law_script"] (spLaw K) := by
  refine F.ok scLaw (fun vs H Q E h => ?_) (fun cdv A outer s H vs Q E hr h => ?_)
  · obtain ⟨a, ns, rfl, _⟩ := h
    rfl
  · obtain ⟨sa, ns, rfl, hs, hz, k⟩ := h
    have hu := hu_of hr
    obtain ⟨fdD, GD, bD⟩ := D.iniD
    refine ⟨_, PSs.nox (pss_cons (ps_set (i := 1) scLaw.nd rfl (Or.inl rfl) (pe_cd D.law_pen (hr.mono (by decide)) pass0 (pa_cons (pv 0) pa_nil)))
        (pss_cons (ps_if (pt_not (pt_val (pe_cd D.law_wide_right (hr.mono (by decide)) pass0 (pa_cons (pv 1) pa_nil)))) (pss_one (ps_ret pe_bl)) pss_nil)
        (pss_cons (ps_for PassesOwn.never rfl (pi_range1 (by rfl) T.range (pa_cons pe_int pa_nil)) (pg_name (i := 2) scLaw.nd rfl (Or.inl rfl)) (pss_cons (ps_asg (pe_tup (pa_cons (pe_cd D.law_pieces (hr.mono (by decide)) pass0 (pa_cons (pv 1) (pa_cons (pe_cd D.law_draw (hr.mono (by decide)) pass0 (pa_cons (pv 1) (pa_cons pe_int pa_nil))) pa_nil))) (pa_cons (pe_cd D.law_pieces (hr.mono (by decide)) pass0 (pa_cons (pv 1) (pa_cons (pe_cd D.law_draw (hr.mono (by decide)) pass0 (pa_cons (pv 1) (pa_cons pe_int pa_nil))) pa_nil))) pa_nil))) (pg_tup rfl (pgs_cons (pg_name (i := 3) scLaw.nd rfl (Or.inl rfl)) (pgs_cons (pg_name (i := 4) scLaw.nd rfl (Or.inr rfl)) pgs_nil))))
        (pss_cons (ps_par (i := 5) (j := 6) (by rfl) scLaw.nd rfl rfl (by decide) rfl rfl (pa_cons (pe_cd D.law_handed (hr.mono (by decide)) pass0 (pa_cons (pv 1) (pa_cons (pv 3) pa_nil))) (pa_cons (pe_make (E := fun _ _ _ => False) D.mkD GD (hr.mono (by decide)) rfl T.Days bD .nil passF (pa_cons (pe_callTy call_tuple_of (by rfl) T.tuple (by decide +kernel) (pa_cons (pv 4) pa_nil)) pa_nil)) pa_nil)) (by rfl))
        (pss_cons (ps_if (PW.pt (pw_or (pt_not (pt_val (pe_cd D.law_set_right (hr.mono (by decide)) pass0 (pa_cons (pv 1) (pa_cons (pv 5) (pa_cons (pv 3) pa_nil)))))) (pw_or1 (pt_not (pt_val (pe_cd D.law_set_right (hr.mono (by decide)) pass0 (pa_cons (pv 1) (pa_cons (pv 6) (pa_cons (pv 4) pa_nil))))))))) (pss_one (ps_ret pe_bl)) pss_nil)
        (pss_cons (ps_par (i := 7) (j := 8) (by rfl) scLaw.nd rfl rfl (by decide) rfl rfl (pa_cons (pe_op (op_binS D.add (hr.mono (by decide)) TS.sf pass0) (pv 5) (pv 6)) (pa_cons (pe_op (op_binS D.or (hr.mono (by decide)) TS.sf pass0) (pv 5) (pv 6)) pa_nil)) (by rfl))
        (pss_cons (ps_par (i := 9) (j := 10) (by rfl) scLaw.nd rfl rfl (by decide) rfl rfl (pa_cons (pe_op op_sub (pe_cd D.law_draw (hr.mono (by decide)) pass0 (pa_cons (pv 1) (pa_cons pe_int pa_nil))) pe_int) (pa_cons (pe_op op_mul (pe_cd D.law_pick (hr.mono (by decide)) pass0 (pa_cons (pv 1) (pa_cons (pe_lst (pa_cons pe_int (pa_cons (pe_un un_neg pe_int) pa_nil))) pa_nil))) (pe_op op_sub (pe_op op_pow pe_int pe_int) (pe_cd D.law_draw (hr.mono (by decide)) pass0 (pa_cons (pv 1) (pa_cons (pe_op op_pow pe_int pe_int) pa_nil))))) pa_nil)) (by rfl))
        (pss_cons (ps_par3 (i := 11) (j := 12) (l := 13) (by rfl) scLaw.nd rfl rfl rfl (by decide) (by decide) (by decide) rfl rfl rfl (pa_cons (pe_cd D.law_members (hr.mono (by decide)) pass0 (pa_cons (pv 3) (pa_cons pe_int pa_nil))) (pa_cons (pe_op (op_binS D.add (hr.mono (by decide)) TS.sf pass0) (pv 6) (pv 5)) (pa_cons (pe_md D.moved (pv 5) T.cl (hr.mono (by decide)) pass0 (pa_cons (pv 10) pa_nil)) pa_nil))) (by rfl))
        (pss_one (ps_for PassesOwn.never rfl (pi_range2 (by rfl) T.range (pa_cons (pe_un un_neg pe_int) (pa_cons pe_int pa_nil))) (pg_name (i := 14) scLaw.nd rfl (Or.inr rfl)) (pss_cons (ps_if (pt_cmpR op_ne (pe_cmpR (op_inOwn D.con (hr.mono (by decide)) pass0) (pv 14) (pv 7) (by rfl)) (pe_callB (cr_any rfl) (by rfl) D.any (by decide +kernel) (pa_cons (pe_lc (own := [("_law_part", 15)]) rfl scLaw.nd (pi_list (pv 11)) (blkOk_by (own := [("_law_part", 15)]) (N := ["_law_script", "_law_pen_here", "_law_lap", "_law_pieces_here", "_law_more", "_law_one", "_law_other", "_law_total", "_law_either", "_law_many", "_law_big", "_law_members_here", "_law_back", "_law_moved_far", "_law_day", "_law_part"]) (sc := defScope (top i_law)) (by decide +kernel)) (fun _ _ _ _ _ => (pg_name (i := 15) scLaw.nd rfl (Or.inl rfl))) (fun _ _ _ _ _ => pts_nil) (fun _ _ _ _ _ => (pe_cd D.law_in_pieces (hr.mono (by decide)) pass0 (pa_cons (pv 4) (pa_cons (pe_op op_sub (pv 14) (pv 15)) pa_nil))))) pa_nil)) (nomark _)) (pss_one (ps_ret pe_bl)) pss_nil)
        (pss_cons (ps_if (PW.pt (pw_or (pt_cmpR op_ne (pe_cmpR (op_inOwn D.con (hr.mono (by decide)) pass0) (pv 14) (pv 8) (by rfl)) (pe_or (pe_cmpR (op_inOwn D.con (hr.mono (by decide)) pass0) (pv 14) (pv 5) (by rfl)) (pe_one (pe_cmpR (op_inOwn D.con (hr.mono (by decide)) pass0) (pv 14) (pv 6) (by rfl)))) (nomark _)) (pw_or1 (pt_cmpR op_ne (pe_cmpR (op_inOwn D.con (hr.mono (by decide)) pass0) (pv 14) (pe_md D.moved (pv 5) T.cl (hr.mono (by decide)) pass0 (pa_cons (pv 9) pa_nil)) (by rfl)) (pe_cmpR (op_inOwn D.con (hr.mono (by decide)) pass0) (pe_op op_sub (pv 14) (pv 9)) (pv 5) (by rfl)) (nomark _))))) (pss_one (ps_ret pe_bl)) pss_nil)
        (pss_one (ps_if (PW.pt (pw_or (pt_cmpR op_ne (pe_cmpR (op_inOwn D.con (hr.mono (by decide)) pass0) (pe_op op_add (pv 14) (pv 10)) (pv 13) (by rfl)) (pe_cmpR (op_inOwn D.con (hr.mono (by decide)) pass0) (pv 14) (pv 5) (by rfl)) (nomark _)) (pw_or1 (pt_cmpR op_ne (pe_cmpR (op_inOwn D.con (hr.mono (by decide)) pass0) (pe_op op_add (pv 14) (pv 10)) (pv 7) (by rfl)) (pe_cmpR (op_inOwn D.con (hr.mono (by decide)) pass0) (pe_op op_add (pv 14) (pv 10)) (pv 12) (by rfl)) (nomark _))))) (pss_one (ps_ret pe_bl)) pss_nil)))))))))))))
        (pss_one (ps_ret pe_bl))))), ?_⟩
    refine ⟨_, rfl, sa, ns, rfl, hs, hz, fun H1 d l s1 nd nl p1 => ?_⟩
    dsimp only [tNext, gName]
    refine ⟨_, rfl, d, l, 0, rfl, p1, by omega, fun a2 H2 g1 g2 p2 b2 => ⟨_, rfl, ifN rfl ?_⟩⟩
    dsimp only [tNext, gName]
    refine ⟨4, rfl, by decide, by decide, for_range (lo := 0) (n := 4) (fun i σ H' => ∃ (x2 x3 x4 x5 x6 x7 x8 x9 x10 x11 x12 x13 x14 : Option V) (a' : Int), σ = [some (.ref sa), some (.ref d), x2, x3, x4, x5, x6, x7, x8, x9, x10, x11, x12, x13, x14, none] ∧ Pen H' d l a' ∧ 0 ≤ a' ∧ a' ≤ 10 + 200 * i)
      ⟨_, _, _, _, _, _, _, _, _, _, _, _, _, a2, rfl, p2, by omega, by omega⟩ ?_ ?_⟩
    · rintro i σ Ha hi ⟨x2, x3, x4, x5, x6, x7, x8, x9, x10, x11, x12, x13, x14, a0, rfl, p0, ga, ga'⟩
      dsimp only [gName]
      -- the pieces
      refine ⟨_, rfl, _, rfl, d, l, a0, 5, rfl, p0, by omega, by decide, by decide, fun n1 a1 Hb n10 n11 g3 g4 pb bb => ?_⟩
      refine ⟨d, l, a1, n1, rfl, pb, by omega, n10, by omega, fun r1 xs ps lp dp a3 Hc g5 g6 pc bc rq1 al1 => ?_⟩
      refine ⟨_, rfl, _, rfl, d, l, a3, 4, rfl, pc, by omega, by decide, by decide, fun n2 a4 Hd n20 n21 g7 g8 pd bd => ?_⟩
      refine ⟨d, l, a4, n2, rfl, pd, by omega, n20, by omega, fun r2 ys qs lq dq a5 He' g9 g10 pe be rq2 al2 => ?_⟩
      have g1p : ∀ p ∈ ps, p.good := fun p hp => (dp p hp).good
      have g2p : ∀ p ∈ qs, p.good := fun p hp => (dq p hp).good
      have lps : ps.length ≤ 4 := by omega
      have lqs : qs.length ≤ 3 := by omega
      refine ⟨(by show 2 ≤ sizeLine; decide), fun t ht => ⟨t, _, rfl, SqT.of upd_same, rfl, _, _, rfl, _, _, rfl, rfl, ?_⟩⟩
      have sT := same_upd (o := HO.tup [.ref r1, .ref r2]) ht
      have rq1e := sT _ _ (keepL pd be (keepL pc bd rq1))
      have al1e := ((al1.but pc bd).but pd be).same sT
      have rq2e := sT _ _ rq2
      have al2e := al2.same sT
      have pe2 := pe.same sT
      generalize upd He' t (HO.tup [.ref r1, .ref r2]) = Hf at sT rq1e al1e rq2e al2e pe2 ⊢
      clear rq1 al1 rq2 al2 pe sT ht be bd bc bb pb pc pd
      dsimp only [gName]
      -- one, other
      refine ⟨_, rfl, _, rfl, d, l, r1, a5, xs, ps, rfl, pe2, by omega, rq1e, al1e, g1p, (nine_of dp).few, by omega, fun x1 a6 Hg g11 g12 pg bg d1 => ?_⟩
      have rq1g := keepL pe2 bg rq1e
      have al1g := al1e.but pe2 bg
      have rq2g := keepL pe2 bg rq2e
      have al2g := al2e.but pe2 bg
      refine ⟨_, rfl, r2, ys, rfl, .inl ⟨SqL.of rq2g, fun tp htp => fun xo dxo nxo ndxo nexo => ?_⟩⟩
      have sA := same_upd (o := HO.tup ys) htp
      refine mkDaysF (.inr upd_same) (al2g.same sA).pie g2p (nine_of dq).few (by omega) nxo ndxo fun Hh sh d2 => ⟨rfl, _, _, rfl, ?_⟩
      have sB := sA.trans sh
      have d1h := d1.same sB
      have rq1h := sB _ _ rq1g
      have al1h := al1g.same sB
      have rq2h := sB _ _ rq2g
      have al2h := al2g.same sB
      have ph := pg.same sB
      clear sA sh htp nxo ndxo rq1e al1e rq2e al2e rq1g al1g rq2g al2g d1 pg bg sB pe2
      dsimp only [tNext, gName]
      -- each is as its pieces tell
      refine ⟨_, rfl, _, rfl, _, rfl, d, l, x1, r1, a6, xs, ps, rfl, ph, by omega, d1h, rq1h, al1h, dp, by omega, fun a7 Hi g13 g14 pi bi => ⟨_, rfl, ifN rfl ?_⟩⟩
      have d1i := d1h.but ph bi
      have d2i := d2.but ph bi
      have rq1i := keepL ph bi rq1h
      have al1i := al1h.but ph bi
      have rq2i := keepL ph bi rq2h
      have al2i := al2h.but ph bi
      refine ⟨_, rfl, _, rfl, _, rfl, d, l, xo, r2, a7, ys, qs, rfl, pi, by omega, d2i, rq2i, al2i, dq, by omega, fun a8 Hj g15 g16 pj bj => ⟨_, rfl, ifN rfl ?_⟩⟩
      have d1j := d1i.but pi bj
      have d2j := d2i.but pi bj
      have rq1j := keepL pi bj rq1i
      have al1j := al1i.but pi bj
      have rq2j := keepL pi bj rq2i
      have al2j := al2i.but pi bj
      clear d1h d2 rq1h al1h rq2h al2h ph bi d1i d2i rq1i al1i rq2i al2i pi bj
      dsimp only [tNext, gName]
      -- sums, unions
      have okA : AddOk ps qs 81 81 := AddOk.nine (sumOk_of dp (by omega)) (sumOk_of dq (by omega)) (nine_of dp) (nine_of dq)
      have okB : AddOk qs ps 81 81 := AddOk.nine (sumOk_of dq (by omega)) (sumOk_of dp (by omega)) (nine_of dq) (nine_of dp)
      obtain ⟨z1, f1, i1⟩ := d1j.ins
      obtain ⟨z2, f2, i2⟩ := d2j.ins
      refine ⟨_, rfl, _, rfl, x1, z1, f1, xo, z2, f2, rfl, rfl, i1, i2, x1, xo, ps, qs, 81, 81, rfl, d1j, d2j, okA, fun xt rs Hk sk dt _ sem => ?_⟩
      have few12 : Few (ps ++ qs) := Nine.few fun p hp n => by
        rcases List.mem_append.mp hp with hp | hp
        · exact nine_of dp p hp n
        · exact nine_of dq p hp n
      refine ⟨_, rfl, _, rfl, x1, z1, f1, xo, z2, f2, rfl, rfl, sk _ _ i1, sk _ _ i2, x1, xo, ps, qs, rfl, d1j.same sk, d2j.same sk, few12, by omega, fun xe Hl sl de => ⟨_, _, rfl, ?_⟩⟩
      have sM := sk.trans sl
      have d1l := d1j.same sM
      have d2l := d2j.same sM
      have dtl := dt.same sl
      have rq1l := sM _ _ rq1j
      have al1l := al1j.same sM
      have rq2l := sM _ _ rq2j
      have al2l := al2j.same sM
      have pl := pj.same sM
      clear sM sk sl dt d1j d2j rq1j al1j rq2j al2j pj i1 i2
      dsimp only [tNext, gName]
      -- two numbers
      refine ⟨_, rfl, d, l, a8, 41, rfl, pl, by omega, by decide, by decide, fun v1 a9 Hm v10 v11 g17 g18 pm bm => ⟨_, _, rfl, rfl, ?_⟩⟩
      refine ⟨_, rfl, _, rfl, (by show 2 ≤ sizeLine; decide), fun lp hlp => ?_⟩
      have sP := same_upd (o := HO.lst [V.int 1, V.int (-1)]) hlp
      have pq := pm.same sP
      refine ⟨d, l, a9, .ref lp, rfl, pq, by omega, .inl ⟨lp, _, rfl, pq.dne upd_same, upd_same, (fun z => nomatch z), (by show 2 ≤ 1000; decide), fun xv a10 Hn hxv g19 g20 pn bn => ?_⟩⟩
      obtain ⟨e, rfl, he1, he2⟩ : ∃ e : Int, xv = .int e ∧ -1 ≤ e ∧ e ≤ 1 := by
        rcases List.mem_cons.mp hxv with rfl | hxv
        · exact ⟨1, rfl, by decide, by decide⟩
        · rw [List.mem_singleton] at hxv
          exact ⟨-1, hxv, by decide, by decide⟩
      refine ⟨_, _, rfl, rfl, ⟨by decide, by decide, by decide⟩, _, rfl, _, _, rfl, rfl, ⟨by decide, by decide, by decide⟩, d, l, a10, _, rfl, pn, by omega, by decide +kernel, by decide +kernel, fun v2 a11 Ho v20 v21 g21 g22 po bo => ?_⟩
      refine ⟨_, _, rfl, rfl, _, _, rfl, rfl, .inl ⟨by omega, by omega⟩, _, _, rfl, ?_⟩
      have k3 : ∀ {c : Addr} {zs : List V}, Hl c = some (.lst zs) → Ho c = some (.lst zs) := fun z => keepL pn bo (keepL pq bn (sP _ _ (keepL pl bm z)))
      have k4 : ∀ {x : Addr} {ps : List Pc}, DayA K Hl x ps → DayA K Ho x ps := fun z => (((z.but pl bm).same sP).but pq bn).but pn bo
      have k5 : ∀ {xs : List V} {ps : List Pc}, PcsA Hl xs ps → PcsA Ho xs ps := fun z => (((z.but pl bm).same sP).but pq bn).but pn bo
      have d1o := k4 d1l
      have d2o := k4 d2l
      have dto := k4 dtl
      have deo := k4 de
      have rq1o := k3 rq1l
      have al1o := k5 al1l
      have rq2o := k3 rq2l
      have al2o := k5 al2l
      clear k3 k4 k5 d1l d2l dtl de rq1l al1l rq2l al2l pl bm sP pq bn pn bo pm hlp
      dsimp only [tNext, gName]
      generalize e * ((10 : Int) ^ (30 : Int).toNat - v2) = big
      obtain ⟨many, hmany⟩ : ∃ many, many = v1 - 20 := ⟨_, rfl⟩
      rw [← hmany]
      -- members, the sum the other way, the set far away
      refine ⟨_, rfl, r1, xs, ps, 200, rfl, rq1o, al1o, g1p, by omega, by omega, by omega, fun m Hp' sp mq => ?_⟩
      have d1p := d1o.same sp
      have d2p := d2o.same sp
      obtain ⟨z1, f1, i1⟩ := d1p.ins
      obtain ⟨z2, f2, i2⟩ := d2p.ins
      refine ⟨_, rfl, _, rfl, xo, z2, f2, x1, z1, f1, rfl, rfl, i2, i1, xo, x1, qs, ps, 81, 81, rfl, d2p, d1p, okB, fun xb rs2 Hq sq db _ sem2 => ?_⟩
      have d1q := d1p.same sq
      obtain ⟨z3, f3, i3, n3⟩ := d1q.fld "moved" (by decide)
      refine ⟨_, rfl, x1, z3, f3, rfl, i3, n3, _, rfl, x1, ps, big, rfl, d1q, (nine_of dp).few, by omega, fun xm Hr sr dm => ⟨_, _, _, rfl, ?_⟩⟩
      have sQ := sq.trans sr
      have sS := sp.trans sQ
      have d1r := d1q.same sr
      have d2r := d2p.same sQ
      have dtr := dto.same sS
      have der := deo.same sS
      have dbr := db.same sr
      have mr := sQ _ _ mq
      have rq2r := sS _ _ rq2o
      have al2r := al2o.same sS
      have pr := po.same sS
      clear sq sr sQ sS sp mq d1p d2p d1q db dto deo rq2o al2o po d1o d2o rq1o al1o i1 i2 i3
      dsimp only [tNext, gName]
      refine ⟨45, rfl, -45, 46, rfl, ⟨by omega, by omega, by omega, by omega⟩, for_range (lo := -45) (n := (46 - -45 : Int).toNat) (fun j σ H' => ∃ (x14 : Option V), σ = [some (.ref sa), some (.ref d), some (.int (0 + (i : Int))), some (.ref r1), some (.ref r2), some (.ref x1), some (.ref xo), some (.ref xt), some (.ref xe), some (.int many), some (.int big), some (.ref m), some (.ref xb), some (.ref xm), x14, none] ∧ Same Hr H')
        ⟨_, rfl, Same.refl _⟩ ?_ ?_⟩
      · rintro j σ Hs hj ⟨x14, rfl, ss⟩
        obtain ⟨dy, hdy⟩ : ∃ dy : Int, dy = -45 + (j : Int) := ⟨_, rfl⟩
        have dy1 : -45 ≤ dy := by omega
        have dy2 : dy ≤ 45 := by omega
        rw [← hdy]
        dsimp only [gName]
        refine seq_by (fun σ' H' => σ' = [some (.ref sa), some (.ref d), some (.int (0 + (i : Int))), some (.ref r1), some (.ref r2), some (.ref x1), some (.ref xo), some (.ref xt), some (.ref xe), some (.int many), some (.int big), some (.ref m), some (.ref xb), some (.ref xm), some (.int dy), none] ∧ Same Hr H') (fun Nx hN => ?_) ?_
        · refine ⟨_, rfl, _, rfl, inDay (dtr.same ss) dy fun Ht st => ?_⟩
          have s2 := ss.trans st
          have mt := s2 _ _ mr
          have lm : (mems ps 200).length ≤ 401 := by
            unfold mems
            refine Nat.le_trans (List.length_filter_le _ _) ?_
            unfold farR
            rw [List.length_map, List.length_range]
            decide
          refine ⟨_, rfl, m, rfl, ⟨_, SqL.of mt⟩, fun lB hlB => lc_list (xs := (mems ps 200).map V.int) (fun i H' => Same Ht H' ∧ H' lB = some (.lst ((((mems ps 200).map fun y => inPs qs (dy - y)).take i).map V.bl))) ⟨same_upd hlB, upd_same⟩ (fun i H' _ z => SqL.of (z.1 _ _ mt)) ?_ ?_⟩
          · rintro i v Hu hvx ⟨su, qu⟩
            obtain ⟨y, hy, rfl⟩ : ∃ y, (mems ps 200)[i]? = some y ∧ V.int y = v := by
              rw [List.getElem?_map] at hvx
              exact Option.map_eq_some_iff.mp hvx
            have s3 := s2.trans su
            refine ⟨rfl, iteT (B := False) ?_⟩
            refine ⟨_, rfl, _, rfl, _, rfl, _, _, rfl, rfl, r2, ys, qs, dy - y, rfl, s3 _ _ rq2r, al2r.same s3, g2p, by omega, fun Hv sv => ?_⟩
            refine ⟨_, sv _ _ qu, by rw [List.length_map, List.length_take, List.length_map, sizeLine_eq]; omega, fun c o zz => ?_, ?_⟩
            · rw [upd_ne (ne_of_none zz hlB)]
              exact sv _ _ (su _ _ zz)
            · rw [upd_same, List.take_add_one, List.getElem?_map, hy, List.map_append]
              rfl
          · rintro Hu ⟨su, qu⟩
            rw [List.take_of_length_le (by rw [List.length_map, List.length_map]; exact Nat.le_refl _)] at qu
            refine ⟨lB, _, rfl, SqL.of qu, rfl, _, rfl, ?_⟩
            rw [near_any dp dq dy1 dy2 (sem dy), ne_self]
            exact ifN rfl (hN _ _ ⟨rfl, s2.trans su⟩)
        rintro _ Ht ⟨rfl, st⟩
        refine seq_by (fun σ' H' => σ' = [some (.ref sa), some (.ref d), some (.int (0 + (i : Int))), some (.ref r1), some (.ref r2), some (.ref x1), some (.ref xo), some (.ref xt), some (.ref xe), some (.int many), some (.int big), some (.ref m), some (.ref xb), some (.ref xm), some (.int dy), none] ∧ Same Hr H') (fun Nx hN => ?_) ?_
        · refine ⟨_, rfl, _, rfl, inDay (der.same st) dy fun Hu su => ?_⟩
          have s2 := st.trans su
          show tOrV _ _ _ _ _
          refine viaE (W := fun v H' => v = .bl (inPs ps dy || inPs qs dy) ∧ Same Hr H') (fun Q' hQ => ?_) (fun v Hv wv => ?_)
          · refine ⟨_, rfl, _, rfl, inDay (d1r.same s2) dy fun Hv sv => ⟨_, rfl, ?_⟩⟩
            have s3 := s2.trans sv
            cases e1 : inPs ps dy with
            | true => exact ifB rfl (hQ _ _ ⟨by rw [e1]; rfl, s3⟩)
            | false => exact ifN rfl ⟨_, rfl, _, rfl, inDay (d2r.same s3) dy fun Hw sw => hQ _ _ ⟨by rw [e1]; rfl, s3.trans sw⟩⟩
          · obtain ⟨rfl, s3⟩ := wv
            refine ⟨rfl, _, rfl, ifN ?_ ?_⟩
            · have e0 : inPs (ps ++ qs) dy = (inPs ps dy || inPs qs dy) := by unfold inPs; rw [List.any_append]
              rw [e0, ne_self]
            · have d1v := d1r.same s3
              obtain ⟨z3, f3, i3, n3⟩ := d1v.fld "moved" (by decide)
              refine ⟨_, rfl, _, rfl, x1, z3, f3, rfl, i3, n3, _, rfl, x1, ps, many, rfl, d1v, (nine_of dp).few, by omega, fun xn Hw sw dn => inDay dn dy fun Hx sx => ?_⟩
              have s4 := (s3.trans sw).trans sx
              refine ⟨_, rfl, _, rfl, _, _, rfl, rfl, _, rfl, inDay (d1r.same s4) (dy - many) fun Hy sy => ⟨rfl, _, rfl, ?_⟩⟩
              rw [inPs_mv, ne_self]
              exact ifN rfl (hN _ _ ⟨rfl, s4.trans sy⟩)
        rintro _ Hu ⟨rfl, su⟩
        refine ⟨_, rfl, _, rfl, _, _, rfl, rfl, _, rfl, inDay (dm.same su) (dy + big) fun Hv sv => ?_⟩
        have s2 := su.trans sv
        refine ⟨_, rfl, _, rfl, inDay (d1r.same s2) dy fun Hw sw => ⟨rfl, _, rfl, ?_⟩⟩
        have s3 := s2.trans sw
        rw [inPs_mv, show dy + big - big = dy from by omega, ne_self]
        refine ifN rfl ⟨_, rfl, _, rfl, _, _, rfl, rfl, _, rfl, inDay (dtr.same s3) (dy + big) fun Hx sx => ?_⟩
        have s4 := s3.trans sx
        refine ⟨_, rfl, _, rfl, _, _, rfl, rfl, _, rfl, inDay (dbr.same s4) (dy + big) fun Hy sy => ⟨rfl, _, rfl, ?_⟩⟩
        have eS : inPs rs2 (dy + big) = inPs rs (dy + big) := by
          rw [Bool.eq_iff_iff, sem, sem2]
          constructor
          · rintro ⟨y, h1, h2⟩
            exact ⟨dy + big - y, h2, by rw [show dy + big - (dy + big - y) = y from by omega]; exact h1⟩
          · rintro ⟨y, h1, h2⟩
            exact ⟨dy + big - y, h2, by rw [show dy + big - (dy + big - y) = y from by omega]; exact h1⟩
        rw [eS, ne_self]
        exact ifN rfl ⟨_, rfl, s4.trans sy⟩
      · rintro σ Hs ⟨x14, rfl, ss⟩
        exact ⟨_, _, _, _, _, _, _, _, _, _, _, _, _, a11, rfl, pr.same ss, by omega, by push_cast; omega⟩
    · rintro σ Hz _
      exact k Hz
end
end Wd
end
section
set_option Elab.async false
set_option linter.all false
set_option maxRecDepth 100000
set_option maxHeartbeats 1000000
set_option pp.maxSteps 600
/-! the head's facts: MEMBERS, a static method -/
namespace Wd
open PySem PySem.Spec PyProof.Rows L2 ClX
theorem tq_of {K : PySem.W.Frag} {w : World} {es : Array DictEntry} {n : Nat} (d : KDict K w (He.ga K "MEMBERS") es n) (b : memB K = true) : Tq K w := by
  have b' : es.toList.map memR = memL.map some := by
    unfold memB at b
    rw [d.at_] at b
    exact of_decide_eq_true b
  refine ⟨⟨es, n, d.at_, d.lit, d.low⟩, fun z => ?_⟩
  obtain ⟨h1, h2⟩ := mem_find b' z
  refine ⟨es, n, (es.toList.find? (·.key.isStr z)).map (·.val), d.at_, d.lit, d.low, ?_, ?_⟩
  · unfold PySem.W.nsIn
    rw [d.at_]
    show (match es.toList.find? (·.key.isStr z) with
      | some e => some (some e.val)
      | none => if es.toList.any (·.refKey) then none else some none) = _
    cases h : es.toList.find? (·.key.isStr z) with
    | some e => rfl
    | none =>
      rw [h1]
      rfl
  · have e : (memL.find? (fun k => decide (k.1 = z))).map (fun k => V.int k.2) = (memK z).map V.int := by
      unfold memK memL
      by_cases z1 : z = "one"
      · subst z1
        rfl
      by_cases z2 : z = "up"
      · subst z2
        rfl
      by_cases z3 : z = "down"
      · subst z3
        rfl
      by_cases z4 : z = "every"
      · subst z4
        rfl
      rw [if_neg z1, if_neg z2, if_neg z3, if_neg z4]
      simp [List.find?_cons, decide_eq_false (fun h => z1 (Eq.symm h)), decide_eq_false (fun h => z2 (Eq.symm h)), decide_eq_false (fun h => z3 (Eq.symm h)), decide_eq_false (fun h => z4 (Eq.symm h))]
    rw [← e]
    exact h2
theorem tt_of {K : PySem.W.Frag} {w : World} {es : Array DictEntry} {n : Nat} (d : KDict K w (He.ga K "TURNED") es n) (b : turB K = true) : Tt K w := by
  have b' : es.toList.map turR = turL.map some := by
    unfold turB at b
    rw [d.at_] at b
    exact of_decide_eq_true b
  have go : ∀ (z : Str) (y : Str × Str), turL.find? (fun k => decide (k.1 = z)) = some y → KDct K w (He.ga K "TURNED") z (.str y.2) := fun z y hy => by
    obtain ⟨e, h1, t, h2⟩ := tur_find b' z y hy
    refine ⟨es, n, e.val, d.at_, d.lit, ?_, ⟨t, h2⟩⟩
    unfold PySem.W.nsIn
    rw [d.at_]
    show (match es.toList.find? (·.key.isStr z) with
      | some e => some (some e.val)
      | none => if es.toList.any (·.refKey) then none else some none) = _
    rw [h1]
  refine ⟨fun k => ?_⟩
  cases k with
  | one => exact go "one" ("one", "one") (by decide +kernel)
  | up => exact go "up" ("up", "down") (by decide +kernel)
  | dn => exact go "down" ("down", "up") (by decide +kernel)
  | ev => exact go "every" ("every", "every") (by decide +kernel)
end Wd
end
section
set_option Elab.async false
set_option linter.all false
set_option maxRecDepth 100000
set_option maxHeartbeats 4000000
namespace Wd
open PySem PySem.Spec PyProof.Rows L2 Wt TL NumText
theorem dtup_ok {K : PySem.W.Frag} {x k : Str} {vs : List He.Dv} (h : dtupB K x k vs = true) : PySem.W.nsIn K (He.ga K x) k = some (some (.ref (dtup K x k))) ∧ ∀ H, SqT K H (dtup K x k) (vs.map (He.Dv.v K)) := by
  unfold dtupB at h
  obtain ⟨h1, h2⟩ := He.ba h
  refine ⟨He.eqO_ok h1, fun H => .inr ?_⟩
  split at h2
  · rename_i e
    obtain ⟨g1, g2⟩ := He.ba h2
    obtain ⟨g3, g4⟩ := He.ba g2
    exact ⟨_, _, _, e, congrArg Value.type (of_decide_eq_true g1), rfl, of_decide_eq_true g3, He.relAll_ok g4⟩
  · cases h2
section
variable {P : Program} {w : World} {K : PySem.W.Frag} {h : Heap} {mg : Str → Option Value} {base : Heap}
theorem df_of {CX : CXT} {x : Str} {st : Stmt} {f : Addr} {fd : FuncData} {ps : List Str} {k : Nat} {sp : Sp} (F : FunD K x x (defArgs st) (defBody st) (defScope st) [] [] f fd) (gl : mg x = some (.ref f)) (G : FnOk P w K mg base CX k f fd ps sp)
    (b : Binds K fd ps []) : Df P w K mg base CX k x ps sp := ⟨f, fd, G, gl, F.kp, b⟩
theorem facts {f : Addr} (X : K.In h) (G : h.Ns mainGlobals mg) (hfa : mg ("law" : Str) = some (.ref f)) (c : SaysU q fn ts w K) :
    ∃ fd : FuncData, (∀ (s : Shared) (v : Value), BindsTo s fd ⟨[v], []⟩ [("_law_script", v)]) ∧ ∀ base : Heap, K.In base → base.Ns mainGlobals mg → FnOk P w K mg base CX0 7 f fd ["_law_script"] (spLaw K) := by
  obtain ⟨t1, t2⟩ := He.ba c.test
  have fa : ∀ (i : Nat) {u : He.Fa}, fas[i]? = some u → u.ok K = true := fun i u z => List.all_eq_true.mp t1 u (List.mem_of_getElem? z)
  have tq : ∀ (i : Nat) (b : Bool), (tst K)[i]? = some b → b = true := fun i b z => List.all_eq_true.mp t2 b (List.mem_of_getElem? z)
  obtain ⟨d21, F21⟩ := c.def_ 21 rfl
  have F21 : FnG K "law" i_law (He.ga K "law") d21 := F21
  have e := hfa.symm.trans (He.glo_ok X G (fa 21 (u := .glo "law") rfl))
  cases e
  have bl := FunD.bindsA (ps := ["_law_script"]) F21 fun _ _ _ _ _ _ us hl => match us, hl with | [_], _ => rfl
  refine ⟨d21, fun s v => bl s [v] rfl, fun base _ _ => ?_⟩
  have TP : TxtP mg := ⟨(He.free_ok X G (fa 33 (u := .free "list") rfl)), (He.free_ok X G (fa 30 (u := .free "int") rfl)), (He.free_ok X G (fa 32 (u := .free "len") rfl))⟩
  have T : Tx K mg := ⟨TP, (He.free_ok X G (fa 40 (u := .free "str") rfl)), (He.free_ok X G (fa 31 (u := .free "isinstance") rfl)), (He.free_ok X G (fa 37 (u := .free "range") rfl)), (He.free_ok X G (fa 28 (u := .free "bool") rfl)), (He.free_ok X G (fa 29 (u := .free "enumerate") rfl)), (He.free_ok X G (fa 41 (u := .free "tuple") rfl)), (He.free_ok X G (fa 27 (u := .free "any") rfl)), (He.free_ok X G (fa 26 (u := .free "all") rfl)), (He.free_ok X G (fa 38 (u := .free "sorted") rfl)), (He.free_ok X G (fa 35 (u := .free "min") rfl)), (He.free_ok X G (fa 34 (u := .free "max") rfl)), (He.free_ok X G (fa 25 (u := .free "abs") rfl)), (He.glo_ok X G (fa 23 (u := .glo "TURNED") rfl)), (He.glo_ok X G (fa 24 (u := .glo "MEMBERS") rfl)), (He.glo_ok X G (fa 22 (u := .glo "Days") rfl)), (He.cls_ok (fa 42 (u := .cls "Days") rfl)), (He.noat_ok (fa 44 (u := .noat "Days" "pieces") rfl)), (He.noat_ok (fa 45 (u := .noat "Days" "_ones") rfl)), (He.noat_ok (fa 46 (u := .noat "Days" "_ups") rfl)), (He.noat_ok (fa 47 (u := .noat "Days" "_downs") rfl)), (He.noat_ok (fa 48 (u := .noat "Days" "_everys") rfl)), (He.noat_ok (fa 49 (u := .noat "Days" "_steps") rfl))⟩
  have g1_TmS : TmS K := ⟨(of_decide_eq_true (tq 5 _ rfl))⟩
  obtain ⟨d22, F22⟩ := c.def_ 22 rfl
  have F22 : FunD K "__init__" "Days.__init__" (defArgs (inClass (top i_Days) j_Days___init__)) (defBody (inClass (top i_Days) j_Days___init__)) (defScope (inClass (top i_Days) j_Days___init__)) [] [] (He.ma K (He.ga K "Days") "__init__") d22 := F22
  obtain ⟨d8, F8⟩ := c.def_ 8 rfl
  have F8 : FnG K "_is_piece" i__is_piece (He.ga K "_is_piece") d8 := F8
  obtain ⟨esM, nM, tbM⟩ := c.tab 1 rfl
  have TQ : Tq K w := tq_of tbM (tq 3 _ rfl)
  obtain ⟨d7, F7⟩ := c.def_ 7 rfl
  have F7 : FnG K "is_integer" i_is_integer (He.ga K "is_integer") d7 := F7
  have G_is_integer : Df P w K mg base CX0 1 "is_integer" ["value"] spIsInt := df_of F7 (He.glo_ok X G (fa 7 (u := .glo "is_integer") rfl)) (ok_isInt F7 T) (F7.bindsN fun _ _ _ _ _ _ us hl => match us, hl with | [_], _ => rfl)
  have D7_DPiece : DPiece P w K mg base := ⟨G_is_integer, (He.free_ok X G (fa 26 (u := .free "all") rfl))⟩
  have G_is_piece : Df P w K mg base CX0 2 "_is_piece" ["piece"] spIsPiece := df_of F8 (He.glo_ok X G (fa 8 (u := .glo "_is_piece") rfl)) (ok_isPiece F8 T TQ D7_DPiece) (F8.bindsN fun _ _ _ _ _ _ us hl => match us, hl with | [_], _ => rfl)
  obtain ⟨d9, F9⟩ := c.def_ 9 rfl
  have F9 : FnG K "_starts" i__starts (He.ga K "_starts") d9 := F9
  have G_starts : Df P w K mg base CX0 1 "_starts" ["pieces", "word"] spStarts := df_of F9 (He.glo_ok X G (fa 9 (u := .glo "_starts") rfl)) (ok_starts F9 T) (F9.bindsN fun _ _ _ _ _ _ us hl => match us, hl with | [_, _], _ => rfl)
  obtain ⟨d30, F30⟩ := c.def_ 30 rfl
  have F30 : FunD K "__init__" "BadPiece.__init__" (defArgs (inClass (top i_BadPiece) j_BadPiece___init__)) (defBody (inClass (top i_BadPiece) j_BadPiece___init__)) (defScope (inClass (top i_BadPiece) j_BadPiece___init__)) [] [] (He.ma K (He.ga K "BadPiece") "__init__") d30 := F30
  have e_BadPiece := errC_of (tq 0 _ rfl) (tq 2 _ rfl)
  obtain ⟨i1_BadPiece, i2_BadPiece, i3_BadPiece, i4_BadPiece⟩ := iniB_ok (tq 1 _ rfl)
  have i5_BadPiece := oexC_of e_BadPiece.be i1_BadPiece
  have i6_BadPiece := ok_BadPiece (P := P) (w := w) (mg := mg) (base := base) F30 i5_BadPiece i2_BadPiece
  have ER_BadPiece : Er P w K mg base "BadPiece" "index" (He.ga K "BadPiece") := ⟨He.glo_ok X G (fa 57 (u := .glo "BadPiece") rfl), i5_BadPiece, e_BadPiece, i2_BadPiece, He.exm_ok (fa 58 (u := .exm "BadPiece" "BadPiece" true) rfl), ⟨_, _, i3_BadPiece, i4_BadPiece, i6_BadPiece.1, i6_BadPiece.2⟩⟩
  have D13_DDaysI : DDaysI P w K mg base (He.ga K "BadPiece") := ⟨G_is_piece, G_starts, ER_BadPiece⟩
  obtain ⟨d13, F13⟩ := c.def_ 13 rfl
  have F13 : FnG K "_law_pen" i__law_pen (He.ga K "_law_pen") d13 := F13
  have G_law_pen : Df P w K mg base CX0 1 "_law_pen" ["_law_script"] (spPen K) := df_of F13 (He.glo_ok X G (fa 13 (u := .glo "_law_pen") rfl)) (ok_pen F13 TP) (F13.bindsN fun _ _ _ _ _ _ us hl => match us, hl with | [_], _ => rfl)
  obtain ⟨d14, F14⟩ := c.def_ 14 rfl
  have F14 : FnG K "_law_draw" i__law_draw (He.ga K "_law_draw") d14 := F14
  have G_law_draw : Df P w K mg base CX0 1 "_law_draw" ["_law_pen_here", "_law_many"] spDraw := df_of F14 (He.glo_ok X G (fa 14 (u := .glo "_law_draw") rfl)) (ok_draw F14 TP) (F14.bindsN fun _ _ _ _ _ _ us hl => match us, hl with | [_, _], _ => rfl)
  obtain ⟨d15, F15⟩ := c.def_ 15 rfl
  have F15 : FnG K "_law_pick" i__law_pick (He.ga K "_law_pick") d15 := F15
  have G_law_pick : Df P w K mg base CX0 2 "_law_pick" ["_law_pen_here", "_law_some"] (spPick K) := df_of F15 (He.glo_ok X G (fa 15 (u := .glo "_law_pick") rfl)) (ok_pick F15 TP G_law_draw) (F15.bindsN fun _ _ _ _ _ _ us hl => match us, hl with | [_, _], _ => rfl)
  obtain ⟨d10, F10⟩ := c.def_ 10 rfl
  have F10 : FnG K "_law_pieces" i__law_pieces (He.ga K "_law_pieces") d10 := F10
  have D22_DDraw : DDraw P w K mg base := ⟨G_law_draw, G_law_pick⟩
  have G_law_pieces : Df P w K mg base CX0 3 "_law_pieces" ["_law_pen_here", "_law_many"] spLPieces := df_of F10 (He.glo_ok X G (fa 10 (u := .glo "_law_pieces") rfl)) (ok_lpieces F10 T D22_DDraw) (F10.bindsN fun _ _ _ _ _ _ us hl => match us, hl with | [_, _], _ => rfl)
  obtain ⟨d12, F12⟩ := c.def_ 12 rfl
  have F12 : FnG K "_law_in_pieces" i__law_in_pieces (He.ga K "_law_in_pieces") d12 := F12
  obtain ⟨d11, F11⟩ := c.def_ 11 rfl
  have F11 : FnG K "_law_in_piece" i__law_in_piece (He.ga K "_law_in_piece") d11 := F11
  have G_law_in_piece : Df P w K mg base CX0 1 "_law_in_piece" ["_law_piece", "_law_day"] spLInP := df_of F11 (He.glo_ok X G (fa 11 (u := .glo "_law_in_piece") rfl)) (ok_linp F11) (F11.bindsN fun _ _ _ _ _ _ us hl => match us, hl with | [_, _], _ => rfl)
  have D27_DLIn : DLIn P w K mg base := ⟨G_law_in_piece, (He.free_ok X G (fa 27 (u := .free "any") rfl))⟩
  have G_law_in_pieces : Df P w K mg base CX0 2 "_law_in_pieces" ["_law_pieces_here", "_law_day"] spLInPs := df_of F12 (He.glo_ok X G (fa 12 (u := .glo "_law_in_pieces") rfl)) (ok_linps F12 D27_DLIn) (F12.bindsN fun _ _ _ _ _ _ us hl => match us, hl with | [_, _], _ => rfl)
  obtain ⟨d16, F16⟩ := c.def_ 16 rfl
  have F16 : FnG K "_law_members" i__law_members (He.ga K "_law_members") d16 := F16
  have D30_DLMem : DLMem P w K mg base := ⟨G_law_in_pieces⟩
  have G_law_members : Df P w K mg base CX0 3 "_law_members" ["_law_pieces_here", "_law_far"] spLMem := df_of F16 (He.glo_ok X G (fa 16 (u := .glo "_law_members") rfl)) (ok_lmem F16 T D30_DLMem) (F16.bindsN fun _ _ _ _ _ _ us hl => match us, hl with | [_, _], _ => rfl)
  obtain ⟨d19, F19⟩ := c.def_ 19 rfl
  have F19 : FnG K "_law_handed" i__law_handed (He.ga K "_law_handed") d19 := F19
  have D33_DLHand : DLHand P w K mg base (He.ga K "BadPiece") := ⟨(He.mkr_ok (fa 43 (u := .mkr "Days") rfl)), ⟨d22, (ok_daysI F22 T D13_DDaysI), F22.bindsN fun _ _ _ _ _ _ us hl => match us, hl with | [_, _], _ => rfl⟩, G_law_draw⟩
  have G_law_handed : Df P w K mg base CX0 5 "_law_handed" ["_law_pen_here", "_law_pieces_here"] (spLHand K) := df_of F19 (He.glo_ok X G (fa 19 (u := .glo "_law_handed") rfl)) (ok_lhand F19 T D33_DLHand) (F19.bindsN fun _ _ _ _ _ _ us hl => match us, hl with | [_, _], _ => rfl)
  obtain ⟨d18, F18⟩ := c.def_ 18 rfl
  have F18 : FnG K "_law_set_right" i__law_set_right (He.ga K "_law_set_right") d18 := F18
  obtain ⟨pd0, pg0⟩ := c.get_ 0 rfl (tq 11 _ rfl)
  obtain ⟨pd1, pg1⟩ := c.get_ 1 rfl (tq 16 _ rfl)
  obtain ⟨pd2, pg2⟩ := c.get_ 2 rfl (tq 21 _ rfl)
  obtain ⟨pd3, pg3⟩ := c.get_ 3 rfl (tq 26 _ rfl)
  have g36_TmP : TmP K := ⟨⟨_, _, pd0, ⟨He.eqO_ok (tq 7 _ rfl), He.eqO_ok (tq 8 _ rfl), of_decide_eq_true (tq 9 _ rfl), recB_ok (tq 10 _ rfl)⟩, pg0⟩, ⟨_, _, pd1, ⟨He.eqO_ok (tq 12 _ rfl), He.eqO_ok (tq 13 _ rfl), of_decide_eq_true (tq 14 _ rfl), recB_ok (tq 15 _ rfl)⟩, pg1⟩, ⟨_, _, pd2, ⟨He.eqO_ok (tq 17 _ rfl), He.eqO_ok (tq 18 _ rfl), of_decide_eq_true (tq 19 _ rfl), recB_ok (tq 20 _ rfl)⟩, pg2⟩, ⟨_, _, pd3, ⟨He.eqO_ok (tq 22 _ rfl), He.eqO_ok (tq 23 _ rfl), of_decide_eq_true (tq 24 _ rfl), recB_ok (tq 25 _ rfl)⟩, pg3⟩⟩
  obtain ⟨d29, F29⟩ := c.def_ 29 rfl
  have F29 : FunD K "_steps_on" "Days._steps_on" (defArgs (inClass (top i_Days) j_Days__steps_on)) (defBody (inClass (top i_Days) j_Days__steps_on)) (defScope (inClass (top i_Days) j_Days__steps_on)) [] [] (He.ma K (He.ga K "Days") "_steps_on") d29 := F29
  have M_Days_steps_on : Md P w K mg base (He.ga K "Days") CX0 1 "_steps_on" ["self", "day", "step"] (spStepsOn K) := ⟨_, _, He.meth_ok (fa 56 (u := .meth "Days" "_steps_on") rfl), (ok_stepsOn F29 T), F29.bindsN fun _ _ _ _ _ _ us hl => match us, hl with | [_, _, _], _ => rfl⟩
  have D43_DCon : DCon P w K mg base := ⟨G_is_integer, M_Days_steps_on, (He.free_ok X G (fa 27 (u := .free "any") rfl))⟩
  obtain ⟨d17, F17⟩ := c.def_ 17 rfl
  have F17 : FnG K "_law_ends" i__law_ends (He.ga K "_law_ends") d17 := F17
  have G_law_ends : Df P w K mg base CX0 1 "_law_ends" ["_law_pieces_here"] spLEnds := df_of F17 (He.glo_ok X G (fa 17 (u := .glo "_law_ends") rfl)) (ok_lends F17 T D43_DCon) (F17.bindsN fun _ _ _ _ _ _ us hl => match us, hl with | [_], _ => rfl)
  obtain ⟨d23, F23⟩ := c.def_ 23 rfl
  have F23 : FunD K "__contains__" "Days.__contains__" (defArgs (inClass (top i_Days) j_Days___contains__)) (defBody (inClass (top i_Days) j_Days___contains__)) (defScope (inClass (top i_Days) j_Days___contains__)) [] [] (He.ma K (He.ga K "Days") "__contains__") d23 := F23
  have M_Days_contains : Md P w K mg base (He.ga K "Days") CX0 2 "__contains__" ["self", "day"] (spCont2 K) := ⟨_, _, He.meth_ok (fa 50 (u := .meth "Days" "__contains__") rfl), (ok_contains2 F23 T D43_DCon), F23.bindsN fun _ _ _ _ _ _ us hl => match us, hl with | [_, _], _ => rfl⟩
  obtain ⟨d26, F26⟩ := c.def_ 26 rfl
  have F26 : FunD K "next_from" "Days.next_from" (defArgs (inClass (top i_Days) j_Days_next_from)) (defBody (inClass (top i_Days) j_Days_next_from)) (defScope (inClass (top i_Days) j_Days_next_from)) [] [] (He.ma K (He.ga K "Days") "next_from") d26 := F26
  obtain ⟨d1, F1⟩ := c.def_ 1 rfl
  have F1 : FnG K "next_up" i_next_up (He.ga K "next_up") d1 := F1
  have G_next_up : Df P w K mg base CX0 1 "next_up" ["piece", "low"] spNextU := df_of F1 (He.glo_ok X G (fa 1 (u := .glo "next_up") rfl)) (ok_nextup F1 T) (F1.bindsN fun _ _ _ _ _ _ us hl => match us, hl with | [_, _], _ => rfl)
  obtain ⟨d2, F2⟩ := c.def_ 2 rfl
  have F2 : FnG K "next_down" i_next_down (He.ga K "next_down") d2 := F2
  obtain ⟨d0, F0⟩ := c.def_ 0 rfl
  have F0 : FnG K "turned" i_turned (He.ga K "turned") d0 := F0
  obtain ⟨esT, nT, tbT⟩ := c.tab 0 rfl
  have TT : Tt K w := tt_of tbT (tq 4 _ rfl)
  have G_turned : Df P w K mg base CX0 1 "turned" ["piece"] spTurned := df_of F0 (He.glo_ok X G (fa 0 (u := .glo "turned") rfl)) (ok_turned F0 T TT) (F0.bindsN fun _ _ _ _ _ _ us hl => match us, hl with | [_], _ => rfl)
  have D55_DND : DND P w K mg base := ⟨G_turned, G_next_up⟩
  have G_next_down : Df P w K mg base CX0 2 "next_down" ["piece", "high"] spNextD := df_of F2 (He.glo_ok X G (fa 2 (u := .glo "next_down") rfl)) (ok_nextdown F2 D55_DND) (F2.bindsN fun _ _ _ _ _ _ us hl => match us, hl with | [_, _], _ => rfl)
  have D57_DNext : DNext P w K mg base := ⟨G_next_up, G_next_down⟩
  have M_Days_next_from : Md P w K mg base (He.ga K "Days") CX0 2 "next_from" ["self", "low"] (spNext K fromS) := ⟨_, _, He.meth_ok (fa 53 (u := .meth "Days" "next_from") rfl), (ok_nextfrom F26 T D57_DNext), F26.bindsN fun _ _ _ _ _ _ us hl => match us, hl with | [_, _], _ => rfl⟩
  obtain ⟨d27, F27⟩ := c.def_ 27 rfl
  have F27 : FunD K "next_to" "Days.next_to" (defArgs (inClass (top i_Days) j_Days_next_to)) (defBody (inClass (top i_Days) j_Days_next_to)) (defScope (inClass (top i_Days) j_Days_next_to)) [] [] (He.ma K (He.ga K "Days") "next_to") d27 := F27
  have M_Days_next_to : Md P w K mg base (He.ga K "Days") CX0 3 "next_to" ["self", "high"] (spNext K toS) := ⟨_, _, He.meth_ok (fa 54 (u := .meth "Days" "next_to") rfl), (ok_nextto F27 T D57_DNext), F27.bindsN fun _ _ _ _ _ _ us hl => match us, hl with | [_, _], _ => rfl⟩
  have D61_DLSet : DLSet P w K mg base := ⟨G_law_draw, G_law_ends, G_law_members, G_law_in_pieces, M_Days_contains, M_Days_next_from, M_Days_next_to, (He.free_ok X G (fa 27 (u := .free "any") rfl))⟩
  have G_law_set_right : Df P w K mg base CX0 5 "_law_set_right" ["_law_pen_here", "_law_days", "_law_pieces_here"] (spLSet K) := df_of F18 (He.glo_ok X G (fa 18 (u := .glo "_law_set_right") rfl)) (ok_lset F18 T g36_TmP D43_DCon D61_DLSet) (F18.bindsN fun _ _ _ _ _ _ us hl => match us, hl with | [_, _, _], _ => rfl)
  obtain ⟨d20, F20⟩ := c.def_ 20 rfl
  have F20 : FnG K "_law_wide_right" i__law_wide_right (He.ga K "_law_wide_right") d20 := F20
  obtain ⟨d24, F24⟩ := c.def_ 24 rfl
  have F24 : FunD K "__add__" "Days.__add__" (defArgs (inClass (top i_Days) j_Days___add__)) (defBody (inClass (top i_Days) j_Days___add__)) (defScope (inClass (top i_Days) j_Days___add__)) [] [] (He.ma K (He.ga K "Days") "__add__") d24 := F24
  obtain ⟨d3, F3⟩ := c.def_ 3 rfl
  have F3 : FnG K "all_sums" i_all_sums (He.ga K "all_sums") d3 := F3
  obtain ⟨d5, F5⟩ := c.def_ 5 rfl
  have F5 : FnG K "_upward_sums" i__upward_sums (He.ga K "_upward_sums") d5 := F5
  obtain ⟨d6, F6⟩ := c.def_ 6 rfl
  have F6 : FnG K "_least_sums" i__least_sums (He.ga K "_least_sums") d6 := F6
  have g68_TmG : TmG K mg := ⟨(PySem.W.mg_of X G (He.eqO_ok (tq 6 _ rfl)))⟩
  have G_least_sums : Df P w K mg base CX0 1 "_least_sums" ["step", "pairs"] spLeastS := df_of F6 (He.glo_ok X G (fa 6 (u := .glo "_least_sums") rfl)) (ok_leastS F6 T g68_TmG) (F6.bindsN fun _ _ _ _ _ _ us hl => match us, hl with | [_, _], _ => rfl)
  have D70_DUp : DUp P w K mg base := ⟨G_least_sums⟩
  have G_upward_sums : Df P w K mg base CX0 2 "_upward_sums" ["one", "other"] spUp := df_of F5 (He.glo_ok X G (fa 5 (u := .glo "_upward_sums") rfl)) (ok_up F5 T D70_DUp) (F5.bindsN fun _ _ _ _ _ _ us hl => match us, hl with | [_, _], _ => rfl)
  obtain ⟨d4, F4⟩ := c.def_ 4 rfl
  have F4 : FnG K "_plain_sum" i__plain_sum (He.ga K "_plain_sum") d4 := F4
  have G_plain_sum : Df P w K mg base CX0 1 "_plain_sum" ["mine", "yours"] spPlain := df_of F4 (He.glo_ok X G (fa 4 (u := .glo "_plain_sum") rfl)) (ok_plain F4 g68_TmG) (F4.bindsN fun _ _ _ _ _ _ us hl => match us, hl with | [_, _], _ => rfl)
  have D74_DAll : DAll P w K mg base := ⟨G_upward_sums, G_turned, G_plain_sum⟩
  have G_all_sums : Df P w K mg base CX0 3 "all_sums" ["one", "other"] spAll := df_of F3 (He.glo_ok X G (fa 3 (u := .glo "all_sums") rfl)) (ok_all F3 T D74_DAll) (F3.bindsN fun _ _ _ _ _ _ us hl => match us, hl with | [_, _], _ => rfl)
  have D76_DMk : DMk P w K mg base (He.ga K "BadPiece") := ⟨(He.mkr_ok (fa 43 (u := .mkr "Days") rfl)), ⟨d22, (ok_daysI F22 T D13_DDaysI), F22.bindsN fun _ _ _ _ _ _ us hl => match us, hl with | [_, _], _ => rfl⟩, G_all_sums⟩
  have M_Days_add : Md P w K mg base (He.ga K "Days") CX0 5 "__add__" ["self", "other"] (spAdd K) := ⟨_, _, He.meth_ok (fa 51 (u := .meth "Days" "__add__") rfl), (ok_addD F24 T D76_DMk), F24.bindsN fun _ _ _ _ _ _ us hl => match us, hl with | [_, _], _ => rfl⟩
  have D78_DLWide : DLWide P w K mg base (He.ga K "BadPiece") := ⟨(He.mkr_ok (fa 43 (u := .mkr "Days") rfl)), ⟨d22, (ok_daysI F22 T D13_DDaysI), F22.bindsN fun _ _ _ _ _ _ us hl => match us, hl with | [_, _], _ => rfl⟩, G_law_draw, M_Days_add, M_Days_contains, (He.free_ok X G (fa 27 (u := .free "any") rfl))⟩
  have G_law_wide_right : Df P w K mg base CX0 6 "_law_wide_right" ["_law_pen_here"] spLWide := df_of F20 (He.glo_ok X G (fa 20 (u := .glo "_law_wide_right") rfl)) (ok_lwide F20 T g1_TmS g36_TmP D43_DCon D78_DLWide) (F20.bindsN fun _ _ _ _ _ _ us hl => match us, hl with | [_], _ => rfl)
  obtain ⟨d25, F25⟩ := c.def_ 25 rfl
  have F25 : FunD K "__or__" "Days.__or__" (defArgs (inClass (top i_Days) j_Days___or__)) (defBody (inClass (top i_Days) j_Days___or__)) (defScope (inClass (top i_Days) j_Days___or__)) [] [] (He.ma K (He.ga K "Days") "__or__") d25 := F25
  have M_Days_or : Md P w K mg base (He.ga K "Days") CX0 5 "__or__" ["self", "other"] (spOr K) := ⟨_, _, He.meth_ok (fa 52 (u := .meth "Days" "__or__") rfl), (ok_orD F25 T D76_DMk), F25.bindsN fun _ _ _ _ _ _ us hl => match us, hl with | [_, _], _ => rfl⟩
  obtain ⟨d28, F28⟩ := c.def_ 28 rfl
  have F28 : FunD K "moved" "Days.moved" (defArgs (inClass (top i_Days) j_Days_moved)) (defBody (inClass (top i_Days) j_Days_moved)) (defScope (inClass (top i_Days) j_Days_moved)) [] [] (He.ma K (He.ga K "Days") "moved") d28 := F28
  have M_Days_moved : Md P w K mg base (He.ga K "Days") CX0 5 "moved" ["self", "many"] (spMoved K) := ⟨_, _, He.meth_ok (fa 55 (u := .meth "Days" "moved") rfl), (ok_moved F28 T D76_DMk), F28.bindsN fun _ _ _ _ _ _ us hl => match us, hl with | [_, _], _ => rfl⟩
  have D84_DLaw : DLaw P w K mg base (He.ga K "BadPiece") := ⟨(He.mkr_ok (fa 43 (u := .mkr "Days") rfl)), ⟨d22, (ok_daysI F22 T D13_DDaysI), F22.bindsN fun _ _ _ _ _ _ us hl => match us, hl with | [_, _], _ => rfl⟩, G_law_pen, G_law_draw, G_law_pick, G_law_pieces, G_law_in_pieces, G_law_members, G_law_handed, G_law_set_right, G_law_wide_right, M_Days_add, M_Days_or, M_Days_moved, M_Days_contains, (He.free_ok X G (fa 27 (u := .free "any") rfl))⟩
  exact (ok_law F21 T g1_TmS D84_DLaw)
end
end Wd
end
section
set_option Elab.async false
set_option linter.all false
set_option maxRecDepth 100000
open PySem PySem.W PySem.Calls PyProof.Rows
set_option maxHeartbeats 0 in
theorem PySem.Challenge.cw_whoseday_k23_whole_sets_of_days_holds : PySem.Challenge.rw_whoseday_k23_whole_sets_of_days.Holds := by
  refine Wd.zcut fun said => ?_
  refine HandSHeadRun.head_imp (r := Wd.R) (q := view Wd.R.prog [0, 33]) (H := Wd.hk) (ob := Wd.ob) (M := 12000) (loose := Wd.names) (d := HandSHeadRun.topDef Wd.R.prog 33) (kwd := []) Wd.ob_eq
    Wd.run Wd.zdef Wd.zthe (by kernel_rfl) (by rfl) said Wd.zok Wd.zbare Wd.zwit ?hc
  case hc =>
    refine L2.walk_ofE (l := PySem.Challenge.rw_whoseday_k23_whole_sets_of_days) (n := 63) (k := 7) (x := "_law_script") (CX := L2.CX0) rfl (by decide) (by kernel_rfl) ⟨rfl, by decide, by decide⟩ ?F (fun _ _ _ _ z => z)
    intro w mg fa h Y G hmg0
    obtain ⟨K, KX, c⟩ := Y
    have hmg : mg ("law" : PySem.Str) = some (.ref fa) := by
      have e : (HandSHeadRun.topDef Wd.R.prog 33).name = ("law" : PySem.Str) := by kernel_rfl
      rw [← e]
      exact hmg0
    obtain ⟨fd, hb, hF⟩ := Wd.facts (P := (PySem.Challenge.rw_whoseday_k23_whole_sets_of_days).prog) (w := w) KX G hmg c
    exact ⟨K, fd, Wd.spLaw K, KX, hb, fun H a ns hl _ hS => ⟨a, ns, rfl, hS, hl, fun _ => rfl⟩, hF⟩
end
