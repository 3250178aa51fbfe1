import PyProof.Rows.All
import Wide.All
import OpenK.AllK
import Wide.FinOn
import HandS.ForExc
import HandS.Property
import KE.KStateDown
import HandS.Defaults
import HandS.ClsMeth
import HandS.Head0
import HandS.Head1
import HandS.Head2
import HandS.HeadEnd
import HandS.HeadHook1
import HandS.HeadHook2
import HandS.HeadNt
import HandS.IsInst
import HandS.ExcIs
import HandS.ExcInit
import HandS.ExcField
import HandS.ExcOwn
import KE.KExcIs
import HandS.ExcInitHot
import HandS.TupAny
import HandS.HeadHook3
import HandS.MakeKwOnly
import HandS.Zip
import HandS.SortKw
import HandS.SortRule
import HandS.Iter
import KE.KSortTupAny
import HandS.ForMost
import HandS.Comp
import HandS.Walk
import HandS.Strs
import HandS.WideBits
import HandS.Style
import HandS.DictTup
import HandS.Dict
import PyProof.DictMoreH
import HandS.Deep
import HandS.Star
import HandS.More
import HandS.GenList
import HandS.SortInts
import HandS.GenCall
import PySem.Challenge.RW_bookstogether_k04_whole_closed_tables
section
set_option Elab.async false
set_option linter.all false
set_option maxRecDepth 100000
set_option maxHeartbeats 4000000
/-! Own operators, truth, static methods of plain own classes. -/
namespace OwnX
open PySem PySem.Spec PyProof.Rows L2

section
variable {X : Cx} {CX : CXT} {pins : List (Addr × Obj)} {σ : L2.St} {H : Hp} {s : Shared} {a C dx f p : Addr} {k : Nat} {fd : FuncData} {ps : List Str} {sp : Sp} {E : XK} {m : Str} {mc : Value}

/-- a def is called below the running body -/
theorem run_call {Q : VK} {A : Around} {us : List Value} {vs : List V} (F : FnOk X.prog X.w X.K X.mg X.base CX k f fd ps sp) (hr : Room k A) (e0 : Env0 X.prog X.w X.K X.mg X.base A X.stack s H) (hb : Binds X.K fd ps []) (hx : Passes CX X E)
    (I : Inv X pins σ H s) (r : Vals vs us) (h : sp vs H Q E) : wpAny (model X.prog X.w) A (call (.ref f) us) (EP X pins σ Q) X.xe s := by
  have hl : us.length = ps.length := by rw [← F.len _ _ _ _ h, r.length]
  refine wpAny_call (codeAny_mono (F.run A X.stack s H ⟨us, []⟩ us vs Q E hr e0 (by
    have := hb s us I.kIn (by simpa using hl)
    simpa using this) r h) fun r s' hq => ?_)
  cases r with
  | error e => exact hx pins σ H s e s' I hq
  | ok fl =>
    cases fl with
    | ret w => exact I.after hq
    | next => exact False.elim hq
    | brk => exact False.elim hq
    | cont => exact False.elim hq
theorem cmpback {P : Value → Shared → Prop} {z : V} {v : Value} {s' : Shared} (r : RelV z v) (h : P v s') : PySem.W.CmpBack P v s' := by
  cases z with
  | non => cases (show v = Value.none from r); exact h
  | bl b => cases (show v = Value.bool b from r); exact h
  | int i =>
    obtain ⟨t, e⟩ := (show ∃ t, v = Value.int i t from r)
    cases e
    exact h
  | str x =>
    obtain ⟨t, e⟩ := (show ∃ t, v = Value.str x t from r)
    cases e
    exact h
  | byt b =>
    obtain ⟨t, e⟩ := (show ∃ t, v = Value.bytes b t from r)
    cases e
    exact h
  | flt b =>
    obtain ⟨t, e⟩ := (show ∃ t, v = Value.float b t from r)
    cases e
    exact h
  | ref a => cases (show v = Value.ref a from r); exact h
  | ty n => cases (show v = Value.type n from r); exact h
/-- x op y, both instances of the class at C -/
def rOwn (C : Addr) (sp : Sp) (E : XK) : R2 := fun x y H Q => ∃ a dx fs b dy gs, x = .ref a ∧ y = .ref b ∧ H a = some (.ins C dx fs) ∧ H b = some (.ins C dy gs) ∧ sp [x, y] H Q E
theorem op_bin {op : Operator} (hc : PySem.W.selfFirst X.K C = true) (M : Meth X.K C (PySem.dunder op.info.2) f) (F : FnOk X.prog X.w X.K X.mg X.base CX k f fd ps sp) (hr : Room k X.A) (hb : Binds X.K fd ps []) (hx : Passes CX X E) :
    OpR X (binaryOp op) (rOwn C sp E) := by
  intro pins s σ H x y v u Q I rx ry h
  obtain ⟨a, dx, fs, b, dy, gs, rfl, rfl, ha, hb', q⟩ := h
  cases (show v = Value.ref a from rx)
  cases (show u = Value.ref b from ry)
  obtain ⟨mA, J, _⟩ := ins_get I.hok ha
  obtain ⟨mB, J', _⟩ := ins_get I.hok hb'
  obtain ⟨od, J, _⟩ := J.look
  obtain ⟨od', J', _⟩ := J'.look
  obtain ⟨m, hF⟩ := I.fr
  refine PySem.W.binop_K (op := op) hF I.ok.mod.kin J J'.type hc M.at_ M.fn ?_
  refine wpAny_mono (run_call (us := [.ref a, .ref b]) (vs := [.ref a, .ref b]) F hr I.env0 hb hx I (.cons rfl (.cons rfl .nil)) q) (fun w s' z => ?_) fun _ _ x => x
  obtain ⟨z', H', I', rz, qz⟩ := z
  exact cmpback rz ⟨z', H', I', rz, qz⟩
theorem op_cmp {op : CmpOp} (hop : ∀ a b, compareOp op a b = richCompare op a b) (M : Meth X.K C (cmpInfo op).2.1 f) (F : FnOk X.prog X.w X.K X.mg X.base CX k f fd ps sp) (hr : Room k X.A) (hb : Binds X.K fd ps []) (hx : Passes CX X E) :
    OpR X (compareOp op) (rOwn C sp E) := by
  intro pins s σ H x y v u Q I rx ry h
  obtain ⟨a, dx, fs, b, dy, gs, rfl, rfl, ha, hb', q⟩ := h
  cases (show v = Value.ref a from rx)
  cases (show u = Value.ref b from ry)
  obtain ⟨mA, J, _⟩ := ins_get I.hok ha
  obtain ⟨mB, J', _⟩ := ins_get I.hok hb'
  obtain ⟨od, J, _⟩ := J.look
  obtain ⟨od', J', _⟩ := J'.look
  obtain ⟨m, hF⟩ := I.fr
  rw [hop]
  refine PySem.W.cmp_K (op := op) (tb := .ref C) hr.units0 hF I.ok.mod.kin J J'.type (by simp [PySem.W.notFirst]) M.at_ M.fn ?_
  refine wpAny_mono (run_call (us := [.ref a, .ref b]) (vs := [.ref a, .ref b]) F hr I.env0 hb hx I (.cons rfl (.cons rfl .nil)) q) (fun w s' z => ?_) fun _ _ x => x
  obtain ⟨z', H', I', rz, qz⟩ := z
  exact cmpback rz ⟨z', H', I', rz, qz⟩
/-- ~x -/
def rOwn1 (C : Addr) (sp : Sp) (E : XK) : V → Hp → VK → Prop := fun x H Q => ∃ a dx fs, x = .ref a ∧ H a = some (.ins C dx fs) ∧ sp [x] H Q E
theorem un_inv (M : Meth X.K C "__invert__" f) (F : FnOk X.prog X.w X.K X.mg X.base CX k f fd ps sp) (hr : Room k X.A) (hb : Binds X.K fd ps []) (hx : Passes CX X E) : UnR X (unaryOp .Invert) (rOwn1 C sp E) := by
  intro pins s σ H x v Q I rx h
  obtain ⟨a, dx, fs, rfl, ha, q⟩ := h
  cases (show v = Value.ref a from rx)
  obtain ⟨mA, J, _⟩ := ins_get I.hok ha
  obtain ⟨od, J, _⟩ := J.look
  obtain ⟨m, hF⟩ := I.fr
  exact PySem.W.ksp_inv hF I.ok.mod.kin J M.at_ M.fn (run_call (us := [.ref a]) (vs := [.ref a]) F hr I.env0 hb hx I (.cons rfl .nil) q)
/-- the truth of x by its own __bool__ -/
def rTruth (C : Addr) (sp : Sp) (E : XK) : V → Hp → (Bool → Hp → Prop) → Prop := fun x H Q => ∃ a dx fs, x = .ref a ∧ H a = some (.ins C dx fs) ∧ sp [x] H (fun v H' => ∃ b, v = .bl b ∧ Q b H') E
theorem truth_at {A : Around} {Q : Bool → Hp → Prop} {E' : Value → Shared → Prop} (I : Inv X pins σ H s) (e : H a = some (.ins C dx fs)) (M : Meth X.K C "__bool__" f)
    (h : wpAny (model X.prog X.w) A (call (.ref f) [.ref a]) (EP X pins σ fun v H' => ∃ b, v = .bl b ∧ Q b H') E' s) : wpAny (model X.prog X.w) A (truthy (.ref a)) (TP X pins σ Q) E' s := by
  obtain ⟨mA, J, _⟩ := ins_get I.hok e
  obtain ⟨od, J, _⟩ := J.look
  obtain ⟨m, hF⟩ := I.fr
  refine PySem.W.truthy_K hF I.ok.mod.kin J M.at_ M.fn (wpAny_mono h (fun r s' hr => ?_) fun _ _ y => y)
  obtain ⟨v, H', I', rv, b, ev, q⟩ := hr
  subst ev
  cases (show r = Value.bool b from rv)
  exact ⟨H', I', q⟩
theorem tru_own (M : Meth X.K C "__bool__" f) (F : FnOk X.prog X.w X.K X.mg X.base CX k f fd ps sp) (hr : Room k X.A) (hb : Binds X.K fd ps []) (hx : Passes CX X E) : TruR X (rTruth C sp E) := by
  intro pins s σ H x v Q I rx h
  obtain ⟨a, dx, fs, rfl, ha, q⟩ := h
  cases (show v = Value.ref a from rx)
  exact truth_at I ha M (run_call (us := [.ref a]) (vs := [.ref a]) F hr I.env0 hb hx I (.cons rfl .nil) q)
/-- a test that is an own instance's truth -/
theorem pt_own {e : Expr} {ta : TE} (ha : PE X e ta) (M : Meth X.K C "__bool__" f) (F : FnOk X.prog X.w X.K X.mg X.base CX k f fd ps sp) (hr : Room k X.A) (hb : Binds X.K fd ps []) (hx : Passes CX X E)
    (he : ∀ whole, isTrue e X.env whole = (do let v ← whole; standAt e.pos; holding [v] (truthy v)) := by intro _; rfl) :
    PT X e (fun σ H Q => ta σ H fun x H' => rTruth C sp E x H' Q) := by
  refine ⟨fun pins s σ H Q I h => ?_⟩
  exact isTrue_plain (thn (ha.run pins s σ H _ I h) fun v s1 ⟨x, H1, I1, r1, q1⟩ => tru_own M F hr hb hx pins s1 σ H1 x v Q I1 r1 q1) (he _)
/-- bool(x) -/
theorem bool_own {A : Around} {x : Addr} {Q : Value → Shared → Prop} {E' : Value → Shared → Prop} {prog : Program} {w : World} {s : Shared}
    (h : wpAny (model prog w) A.in1.in1 (truthy (.ref x)) (fun b s₁ => Q (.bool b) s₁) E' s) : wpAny (model prog w) A (call (.type "bool") [.ref x]) Q E' s := by
  refine callType_codes (T := "bool") (Bi := Builtin.«object.__init__») (Q₁ := fun r s₁ => ∃ b, r = Value.bool b ∧ Q r s₁) PySem.F.called_bool (PySem.F.typeCall_bool_1 _) PySem.F.entry_object_init ?_ ?_
  · refine codeAny_of_tree ?_
    show wpAny _ A.in1.in1 (do checkBuiltinCall "bool.__new__" ⟨[.type "bool", .ref x], []⟩; again (.builtin "bool.__new__" ⟨[.type "bool", .ref x], []⟩)) _ _ s
    refine wpAny_bind (wpAny_of_eq (PySem.F.newCall_bool_1 _) (wpAny_pure ⟨plainId_quiet (by decide +kernel) _, codeAny_builtin PySem.F.entry_bool_new ?_⟩))
    rw [Around.under_plainId (by decide +kernel) _]
    unfold Builtin.«bool.__new__»
    refine wpAny_bind (wpAny_of_eq (a := true) (by kernel_rfl) ?_)
    refine PySem.W.KFB.if_not rfl ?_
    refine wpAny_bind (wpAny_of_eq (a := true) PySem.F.conv_sub_bool ?_)
    refine PySem.W.KFB.if_not rfl ?_
    refine wpAny_bind (wpAny_of_eq (a := [Value.ref x]) (by kernel_rfl) ?_)
    exact wpAny_bind (wpAny_mono h (fun b s₁ hb => wpAny_pure ⟨b, rfl, hb⟩) fun _ _ y => y)
  · rintro obj s₁ ⟨b, rfl, hq⟩
    exact ⟨rfl, PySem.F.args_object_init_2 _ _, object_init_meets PySem.F.called_bool.init.lookup PySem.F.called_bool.made (by decide) prog w A.in1 _ s₁ ⟨rfl, rfl, hq⟩⟩
end
end OwnX

end
section
set_option Elab.async false
set_option linter.all false
set_option maxRecDepth 100000
set_option maxHeartbeats 4000000
/-! The head's facts by a Hook of one Bool, defs at any address; calls of such defs. -/
namespace Hk
open PySem PySem.Spec PyProof.Rows L2
open He (ga ma ba eqO eqO_ok frG frG_in)
open He5 (DefA fnA asA wf)

def obsE (ex : PySem.W.Frag → Bool) (fn : List DefA) (K : PySem.W.Frag) : He.AlD := (ex K && fn.all fun d => d.ok K, fn.map fun d => fnA K (d.at_ K))
def valE (fn : List DefA) : He.AlD := (true, fn.map DefA.val)
def SaysE (ex : PySem.W.Frag → Bool) (fn : List DefA) (K : PySem.W.Frag) : Prop := obsE ex fn K = valE fn
def obsEG (n : Nat) (ex : PySem.W.Frag → Bool) (fn : List DefA) (g : Addr → Option Obj) : He.AlD := obsE ex fn (frG g (asA g n))
def hookE (n : Nat) (ex : PySem.W.Frag → Bool) (fn : List DefA) : PySem.W.Hook where
  α := He.AlD
  obs := fun s => obsEG n ex fn s.heap.get?
  val := fun _ => valE fn
  says := fun _ h => ∃ K : PySem.W.Frag, K.In h ∧ SaysE ex fn K
  of := fun _ _ e => ⟨_, frG_in, e⟩
  keeps := fun _ _ _ ⟨K, hK, c⟩ k => ⟨K, PySem.W.Frag.In.keeps hK k, c⟩
theorem obsEG_eq {n : Nat} {ex : PySem.W.Frag → Bool} {fn : List DefA} {g : Addr → Option Obj} {s : Shared} (h : ∀ a, g a = s.heap.get? a) : obsEG n ex fn g = (hookE n ex fn).obs s := by
  have e : g = s.heap.get? := funext h
  rw [e] <;> rfl
section
variable {ex : PySem.W.Frag → Bool} {fn : List DefA} {K : PySem.W.Frag}
theorem SaysE.more (c : SaysE ex fn K) : ex K = true :=
  (ba (show (ex K && fn.all fun d => d.ok K) = true from congrArg (fun z : He.AlD => z.1) c)).1
theorem SaysE.def_ (c : SaysE ex fn K) (i : Nat) {d : DefA} (h : fn[i]? = some d := by rfl) : ∃ fd, FunD K d.name d.qual d.params d.body d.scope (d.dvs K) (d.kws K) (d.at_ K) fd := by
  have c2 := (ba (show (ex K && fn.all fun d => d.ok K) = true from congrArg (fun z : He.AlD => z.1) c)).2
  have e : fn.map (fun d => fnA K (d.at_ K)) = fn.map DefA.val := congrArg (fun z : He.AlD => z.2) c
  have e2 : (fn.map fun d => fnA K (d.at_ K))[i]? = (fn.map DefA.val)[i]? := by rw [e]
  rw [List.getElem?_map, List.getElem?_map, h] at e2
  exact DefA.funD (Option.some.inj e2) (List.all_eq_true.mp c2 d (List.mem_of_getElem? h))
end

/-! ### facts as Bools -/
/-- the getter's address of the property f of the class x -/
def pg (K : PySem.W.Frag) (x f : Str) : Addr := wf K (ga K x) "property" f
/-- the static method's def -/
def sg (K : PySem.W.Frag) (x f : Str) : Addr := wf K (ga K x) "staticmethod" f
def cg (K : PySem.W.Frag) (x f : Str) : Addr := wf K (ga K x) "classmethod" f
def mt (K : PySem.W.Frag) (x f : Str) : Addr := ma K (ga K x) f
/-- the module's name is this value -/
def nsB (K : PySem.W.Frag) (x : Str) (r : Option Value) : Bool := eqO (PySem.W.nsIn K mainGlobals x) (some r)
def selfB (K : PySem.W.Frag) (x : Str) : Bool := PySem.W.selfFirst K (ga K x)
def propB (K : PySem.W.Frag) (x f : Str) : Bool := eqO (PySem.W.findIn K (.ref (ga K x)) f) (some (some (.ref (mt K x f)))) && (eqO (PySem.W.specialIn K (.ref (mt K x f)) "__get__") (some (some (.builtin "property.__get__"))) &&
  (decide (PySem.W.takesIn K (.ref (mt K x f)) = some true) && (match PySem.W.recIn K (mt K x f) "property" with
    | some (.ref _ :: _) => true
    | _ => false)))
theorem prop_ok {K : PySem.W.Frag} {x f : Str} (h : propB K x f = true) : PropOf K (ga K x) f (mt K x f) (pg K x f) := by
  obtain ⟨h1, h⟩ := ba h
  obtain ⟨h2, h⟩ := ba h
  obtain ⟨h3, h4⟩ := ba h
  refine ⟨eqO_ok h1, eqO_ok h2, of_decide_eq_true h3, ?_⟩
  unfold pg wf
  show ∃ rest, PySem.W.recIn K (mt K x f) "property" = some (.ref (match PySem.W.recIn K (mt K x f) "property" with | some (.ref f :: _) => f | _ => 0) :: rest)
  split at h4
  · rename_i g r e
    exact ⟨r, by rw [e]⟩
  · cases h4
def statB (K : PySem.W.Frag) (x f : Str) : Bool := He5.wrapB K (ga K x) "staticmethod" "staticmethod.__get__" f && (PySem.W.keepIn K (.ref (sg K x f)))
def readB (K : PySem.W.Frag) (x : Str) : Bool := PySem.W.readsIn K (ga K x) (.type "type") && eqO (PySem.W.specialIn K (.ref (ga K x)) "__getattribute__") (some (some (.builtin "type.__getattribute__")))
theorem read_ok {K : PySem.W.Frag} {x : Str} (h : readB K x = true) : ClX.CRead K (ga K x) (.type "type") := by
  obtain ⟨h1, h2⟩ := ba h
  exact ⟨h1, eqO_ok h2⟩
/-- the class's value v -/
def cvalB (K : PySem.W.Frag) (x f : Str) (v : V) : Bool := match PySem.W.findCls K (.ref (ga K x)) (.type "type") f with
  | some (.val u) => He.relB v u
  | _ => false
theorem cval_ok {K : PySem.W.Frag} {x f : Str} {v : V} (h : cvalB K x f v = true) : ∃ u, ClX.CVal K (ga K x) (.type "type") f v u := by
  unfold cvalB at h
  split at h
  · rename_i u e
    exact ⟨u, e, He.relB_ok h⟩
  · cases h
/-- an own error class: bm its bases -/
def excB (K : PySem.W.Frag) (x : Str) (bm : List Value) : Bool := PySem.W.excIn K (ga K x) bm "ValueError.__new__" && (PySem.W.keepIn K (.ref (ga K x)) && (decide (PySem.W.subIn K (.ref (ga K x)) (.type "BaseException") = some true) && decide (PySem.W.typeIn K (.ref (ga K x)) = some (.type "type"))))
structure ExcF (K : PySem.W.Frag) (x : Str) (bm : List Value) : Prop where
  ex : PySem.W.excIn K (ga K x) bm "ValueError.__new__" = true
  kp : PySem.W.keepIn K (.ref (ga K x)) = true
  sb : PySem.W.subIn K (.ref (ga K x)) (.type "BaseException") = some true
  ty : PySem.W.typeIn K (.ref (ga K x)) = some (.type "type")
theorem exc_ok {K : PySem.W.Frag} {x : Str} {bm : List Value} (c : excB K x bm = true) : ExcF K x bm := by
  obtain ⟨c1, c⟩ := ba c
  obtain ⟨c2, c⟩ := ba c
  obtain ⟨c3, c4⟩ := ba c
  exact ⟨c1, c2, of_decide_eq_true c3, of_decide_eq_true c4⟩
/-- the module's names as the table tells them -/
def NsAll (K : PySem.W.Frag) (mg : Str → Option Value) : Prop := ∀ x r, PySem.W.nsIn K mainGlobals x = some r → mg x = r
theorem nsAll_of {K : PySem.W.Frag} {h : Heap} {mg : Str → Option Value} (X : K.In h) (G : h.Ns mainGlobals mg) : NsAll K mg := fun x r e => by
  cases r with
  | none => exact PySem.W.mg_none_of X G e
  | some v => exact PySem.W.mg_of X G e
theorem ns_ok {K : PySem.W.Frag} {mg : Str → Option Value} {x : Str} {r : Option Value} (N : NsAll K mg) (c : nsB K x r = true) : mg x = r := N x r (eqO_ok c)
theorem glo_ok {K : PySem.W.Frag} {mg : Str → Option Value} {x : Str} (N : NsAll K mg) (c : (He.Fa.glo x).ok K = true) : mg x = some (.ref (ga K x)) := N x _ (eqO_ok c)
theorem free_ok {K : PySem.W.Frag} {mg : Str → Option Value} {x : Str} (N : NsAll K mg) (c : (He.Fa.free x).ok K = true) : mg x = none := N x _ (eqO_ok c)

/-! ### defs that keep promises -/
section
variable {P : Program} {w : World} {K : PySem.W.Frag} {mg : Str → Option Value} {base : Heap}
/-- the module's def x keeps the promise -/
structure GOk (P : Program) (w : World) (K : PySem.W.Frag) (mg : Str → Option Value) (base : Heap) (CX : CXT) (k : Nat) (x : Str) (ps : List Str) (sp : Sp) : Prop where
  g : mg x = some (.ref (ga K x))
  ex : ∃ fd, PySem.W.keepIn K (.ref (ga K x)) = true ∧ Binds K fd ps [] ∧ FnOk P w K mg base CX k (ga K x) fd ps sp
theorem GOk.mono {CX : CXT} {j k : Nat} {x : Str} {ps : List Str} {sp : Sp} (G : GOk P w K mg base CX j x ps sp) (h : j ≤ k) : GOk P w K mg base CX k x ps sp :=
  let ⟨fd, a, b, c⟩ := G.ex
  ⟨G.g, fd, a, b, c.mono h⟩
theorem GOk.imp {CX : CXT} {k : Nat} {x : Str} {ps : List Str} {sp sp' : Sp} (G : GOk P w K mg base CX k x ps sp) (h : ∀ vs H Q E, sp' vs H Q E → sp vs H Q E) : GOk P w K mg base CX k x ps sp' :=
  let ⟨fd, a, b, c⟩ := G.ex
  ⟨G.g, fd, a, b, c.imp h⟩
/-- a method, a getter, a static method at an address -/
structure AOk (P : Program) (w : World) (K : PySem.W.Frag) (mg : Str → Option Value) (base : Heap) (CX : CXT) (k : Nat) (a : Addr) (ps : List Str) (sp : Sp) : Prop where
  ex : ∃ fd, Binds K fd ps [] ∧ FnOk P w K mg base CX k a fd ps sp
theorem AOk.mono {CX : CXT} {j k : Nat} {a : Addr} {ps : List Str} {sp : Sp} (G : AOk P w K mg base CX j a ps sp) (h : j ≤ k) : AOk P w K mg base CX k a ps sp :=
  let ⟨fd, b, c⟩ := G.ex
  ⟨fd, b, c.mono h⟩
end
section
variable {X : Cx} {CX : CXT} {k : Nat} {x : Str} {ps : List Str} {sp : Sp} {E : XK} {e : Expr} {es : List Expr} {p pos apos : Pos} {t : TA} {ta : TE} {cls m : Str} {C : Addr} {o : Expr} {a b : Expr} {tb : TE}
/-- f(e, ..) -/
theorem pe_g (G : GOk X.prog X.w X.K X.mg X.base CX k x ps sp) (hr : Room k X.A) (hx : Passes CX X E) (ha : PA X (e :: es) t) (hg : Gl X x := by rfl)
    (hdb : (x == ("__debug__" : Str)) = false := by decide) (he : starEach (e :: es) X.env = (false, eval e X.env) :: starEach es X.env := by rfl) (hpl : (backTo pos (starEach es X.env)).any (·.1) = false := by rfl) :
    PE X (.Call (.Name x p) (e :: es) [] pos) (tCall sp [] E t) := by
  obtain ⟨fd, h1, h2, h3⟩ := G.ex
  exact pe_call h3 hr hg G.g h1 h2 .nil hx ha hdb he hpl
theorem pe_g0 (G : GOk X.prog X.w X.K X.mg X.base CX k x ps sp) (hr : Room k X.A) (hx : Passes CX X E) (hg : Gl X x := by rfl) (hdb : (x == ("__debug__" : Str)) = false := by decide) : PE X (.Call (.Name x p) [] [] pos) (tCall sp [] E tNil) := by
  obtain ⟨fd, h1, h2, h3⟩ := G.ex
  exact pe_call0 h3 hr hg G.g h1 h2 .nil hx hdb
/-- o.m(e, ..) -/
theorem pe_m {pl : Sem Bool} (G : AOk X.prog X.w X.K X.mg X.base CX k (ma X.K C m) ps sp) (c : Cls X.K C) (hm : Meth X.K C m (ma X.K C m)) (hr : Room k X.A) (hx : Passes CX X E) (he : PE X o ta) (ha : PA X (e :: es) t)
    (hst : starEach (e :: es) X.env = (false, eval e X.env) :: starEach es X.env := by rfl) (hpl : (backTo pos (starEach es X.env)).any (·.1) = false := by rfl)
    (ht : eval (.Call (.Attribute o m apos) (e :: es) [] pos) X.env = (do
      let ov ← eval o X.env
      standAt apos.atName
      let (f, first) ← holding [ov] (getMethod ov m pl)
      callWith pos f first (backTo pos (starEach (e :: es) X.env)) (backToKw pos (keywordEach [] X.env))) := by rfl) :
    PE X (.Call (.Attribute o m apos) (e :: es) [] pos) (tMeth C m sp [] E ta t) := by
  obtain ⟨fd, h2, h3⟩ := G.ex
  exact pe_meth he c hm h3 hr h2 .nil hx ha hst hpl ht
/-- o.f, a property -/
theorem pe_p {pr a' : Addr} (G : AOk X.prog X.w X.K X.mg X.base CX k a' ps sp) (c : Cls X.K C) (hp : PropOf X.K C m pr a') (hr : Room (k + 1) X.A) (hx : Passes CX X.nox E) (he : PE X o ta)
    (hab : attributeBase o m X.env (eval o X.env) = eval o X.env := by rfl) : PE X (.Attribute o m pos) (tProp C sp [] E ta) := by
  obtain ⟨fd, h2, h3⟩ := G.ex
  exact pe_prop he c hp h3 hr h2 .nil hx hab
theorem op_bin {op : Operator} (G : AOk X.prog X.w X.K X.mg X.base CX k f ps sp) (hc : PySem.W.selfFirst X.K C = true) (M : Meth X.K C (PySem.dunder op.info.2) f) (hr : Room k X.A) (hx : Passes CX X E) : OpR X (binaryOp op) (OwnX.rOwn C sp E) := by
  obtain ⟨fd, h2, h3⟩ := G.ex
  exact OwnX.op_bin hc M h3 hr h2 hx
theorem op_cmp {op : CmpOp} (G : AOk X.prog X.w X.K X.mg X.base CX k f ps sp) (hop : ∀ a b, compareOp op a b = richCompare op a b) (M : Meth X.K C (cmpInfo op).2.1 f) (hr : Room k X.A) (hx : Passes CX X E) : OpR X (compareOp op) (OwnX.rOwn C sp E) := by
  obtain ⟨fd, h2, h3⟩ := G.ex
  exact OwnX.op_cmp hop M h3 hr h2 hx
theorem un_inv (G : AOk X.prog X.w X.K X.mg X.base CX k f ps sp) (M : Meth X.K C "__invert__" f) (hr : Room k X.A) (hx : Passes CX X E) : UnR X (unaryOp .Invert) (OwnX.rOwn1 C sp E) := by
  obtain ⟨fd, h2, h3⟩ := G.ex
  exact OwnX.un_inv M h3 hr h2 hx
theorem pt_own (G : AOk X.prog X.w X.K X.mg X.base CX k f ps sp) (M : Meth X.K C "__bool__" f) (hr : Room k X.A) (hx : Passes CX X E) (ha : PE X e ta)
    (he : ∀ whole, isTrue e X.env whole = (do let v ← whole; standAt e.pos; holding [v] (truthy v)) := by intro _; rfl) : PT X e (fun σ H Q => ta σ H fun x H' => OwnX.rTruth C sp E x H' Q) := by
  obtain ⟨fd, h2, h3⟩ := G.ex
  exact OwnX.pt_own ha M h3 hr h2 hx he
/-- bool(x), x an own instance -/
theorem call_bool (G : AOk X.prog X.w X.K X.mg X.base CX k f ps sp) (M : Meth X.K C "__bool__" f) (hr : Room (k + 2) X.A) (hx : Passes CX X E) : CallR X (.type "bool") (fun xs H Q => ∃ x, xs = [x] ∧ OwnX.rTruth C sp E x H fun b H' => Q (.bl b) H') := by
  obtain ⟨fd, h2, h3⟩ := G.ex
  intro pins s σ H xs us Q I r h
  obtain ⟨x, rfl, a, dx, fs, rfl, ha, q⟩ := h
  obtain ⟨u, rfl, ru⟩ := r.one
  cases (show u = Value.ref a from ru)
  have hr2 : Room k X.A.in1.in1 := (show Room (k + 1) X.A.in1 from Room.in1 hr).in1
  refine OwnX.bool_own (wpAny_mono (OwnX.truth_at I ha M (OwnX.run_call (us := [.ref a]) (vs := [.ref a]) h3 hr2 I.env0.in1.in1 h2 hx I (.cons rfl .nil) q)) (fun b s' z => ?_) fun _ _ y => y)
  obtain ⟨H', I', q'⟩ := z
  exact ⟨.bl b, H', I', rfl, q'⟩
/-- C(e, ..) -/
theorem pe_mk (M : Mk X.K C f) (G : AOk X.prog X.w X.K X.mg X.base CX k f ps sp) (hm : X.mg x = some (.ref C)) (hr : Room (k + 1) X.A) (hx : Passes CX X E) (ha : PA X (e :: es) t) (hg : Gl X x := by rfl)
    (hdb : (x == ("__debug__" : Str)) = false := by decide) (he : starEach (e :: es) X.env = (false, eval e X.env) :: starEach es X.env := by rfl) (hpl : (backTo pos (starEach es X.env)).any (·.1) = false := by rfl) :
    PE X (.Call (.Name x p) (e :: es) [] pos) (tMake C sp [] E t) := by
  obtain ⟨fd, h2, h3⟩ := G.ex
  exact pe_make M h3 hr hg hm h2 .nil hx ha hdb he hpl
end
/-! ### static methods called off the class -/
/-- e.m(..), e the class at C -/
def tStat (C : Addr) (sp : Sp) (E : XK) (ta : TE) (t : TA) : TE := fun σ H Q => ta σ H fun x H1 => x = .ref C ∧ t σ H1 fun vs H2 => sp vs H2 Q E
section
variable {X : Cx} {CX : CXT} {k : Nat} {x : Str} {ps : List Str} {sp : Sp} {E : XK} {e : Expr} {es : List Expr} {p pos apos : Pos} {t : TA} {ta : TE} {m : Str} {o : Expr}
theorem pe_s {pl : Sem Bool} (G : AOk X.prog X.w X.K X.mg X.base CX k (sg X.K x m) ps sp) (r : readB X.K x = true) (c : statB X.K x m = true) (hr : Room k X.A) (hx : Passes CX X E) (hex : PE X o ta) (ha : PA X (e :: es) t)
    (hst : starEach (e :: es) X.env = (false, eval e X.env) :: starEach es X.env := by rfl) (hpl : (backTo pos (starEach es X.env)).any (·.1) = false := by rfl)
    (ht : eval (.Call (.Attribute o m apos) (e :: es) [] pos) X.env = (do
      let ov ← eval o X.env
      standAt apos.atName
      let (f, first) ← holding [ov] (getMethod ov m pl)
      callWith pos f first (backTo pos (starEach (e :: es) X.env)) (backToKw pos (keywordEach [] X.env))) := by rfl) :
    PE X (.Call (.Attribute o m apos) (e :: es) [] pos) (tStat (ga X.K x) sp E ta t) := by
  obtain ⟨fd, h2, h3⟩ := G.ex
  obtain ⟨c1, c2⟩ := ba c
  obtain ⟨w1, rest, w2⟩ := He5.wrapB_ok c1
  have R := read_ok r
  refine ⟨fun pins s σ H Q I h => ?_⟩
  refine PySem.W.methodCall_KW (pl := pl) (thn (hex.run pins s σ H _ I h) fun u s1 ⟨y, H1, I1, rx, ex, q⟩ => ?_) ht
  subst ex
  obtain rfl : u = Value.ref (ga X.K x) := rx
  refine PySem.W.method_cls I1.kIn R.ga (PySem.W.cls_bind I1.kIn R.rd w1 (wpAny_call (PySem.W.sm_get (s := { s1 with toks := s1.toks + 1 }) I1.kIn w2 (PySem.W.handed_on rfl ?_))))
  have I2 := I1.tok (s1.toks + 1)
  refine PySem.W.callWith_K (h₀ := X.base) I2.ok.mod.kin c2 (thn (ha.run pos pins _ σ H1 _ I2 q) fun us s3 ⟨vs, H2, I3, rv, q2⟩ => ⟨I3.kIn, ?_⟩) hst hpl
  exact OwnX.run_call h3 hr I3.env0 h2 hx I3 rv q2
end
/-! ### a def of the text and its promise -/
section
variable {P : Program} {w : World} {K : PySem.W.Frag} {mg : Str → Option Value} {base : Heap} {nm qual : Str} {st : Stmt} {N ps : List Str} {k : Nat} {CX : CXT} {sp : Sp} {a : Addr}
theorem mkFX (F : ∃ fd, FunD K nm qual (defArgs st) (defBody st) (defScope st) [] [] a fd)
    (hb : ∀ (kV doc pm : Value) (an : Option Addr) (cdv ct : Value) (us : List Value), us.length = ps.length → bindArgs (PySem.W.fnOf nm qual (defArgs st) (defBody st) (defScope st) .none kV doc pm an cdv ct) ⟨us, []⟩ = pure (ps.zip us))
    (S : FnScope N ps (defScope st)) (len : ∀ vs H Q E, sp vs H Q E → vs.length = ps.length)
    (hbody : ∀ (cdv : Value) (A : Around) (outer : List Env) (s : Shared) (H : Hp) (vs : List V) (Q : VK) (E : XK), Room k (A.deeper (envOfC qual (defScope st) s.heap.objs.size a cdv)) → sp vs H Q E →
      ∃ t, PSs (cxOf CX P w K mg base N qual (defScope st) a cdv A outer s H E) (defBody st) t ∧ t { nx := fun _ H' => Q .non H', rt := Q } (start N vs) H) :
    ∃ fd, PySem.W.keepIn K (.ref a) = true ∧ Binds K fd ps [] ∧ FnOk P w K mg base CX (k + 1) a fd ps sp := by
  obtain ⟨fd, F⟩ := F
  exact ⟨fd, F.kp, F.bindsN hb, F.ok S len hbody⟩
theorem mkGX (g : mg nm = some (.ref (ga K nm))) (F : ∃ fd, FunD K nm qual (defArgs st) (defBody st) (defScope st) [] [] (ga K nm) fd)
    (hb : ∀ (kV doc pm : Value) (an : Option Addr) (cdv ct : Value) (us : List Value), us.length = ps.length → bindArgs (PySem.W.fnOf nm qual (defArgs st) (defBody st) (defScope st) .none kV doc pm an cdv ct) ⟨us, []⟩ = pure (ps.zip us))
    (S : FnScope N ps (defScope st)) (len : ∀ vs H Q E, sp vs H Q E → vs.length = ps.length)
    (hbody : ∀ (cdv : Value) (A : Around) (outer : List Env) (s : Shared) (H : Hp) (vs : List V) (Q : VK) (E : XK), Room k (A.deeper (envOfC qual (defScope st) s.heap.objs.size (ga K nm) cdv)) → sp vs H Q E →
      ∃ t, PSs (cxOf CX P w K mg base N qual (defScope st) (ga K nm) cdv A outer s H E) (defBody st) t ∧ t { nx := fun _ H' => Q .non H', rt := Q } (start N vs) H) : GOk P w K mg base CX (k + 1) nm ps sp :=
  ⟨g, mkFX F hb S len hbody⟩
theorem mkAX (F : ∃ fd, FunD K nm qual (defArgs st) (defBody st) (defScope st) [] [] a fd)
    (hb : ∀ (kV doc pm : Value) (an : Option Addr) (cdv ct : Value) (us : List Value), us.length = ps.length → bindArgs (PySem.W.fnOf nm qual (defArgs st) (defBody st) (defScope st) .none kV doc pm an cdv ct) ⟨us, []⟩ = pure (ps.zip us))
    (S : FnScope N ps (defScope st)) (len : ∀ vs H Q E, sp vs H Q E → vs.length = ps.length)
    (hbody : ∀ (cdv : Value) (A : Around) (outer : List Env) (s : Shared) (H : Hp) (vs : List V) (Q : VK) (E : XK), Room k (A.deeper (envOfC qual (defScope st) s.heap.objs.size a cdv)) → sp vs H Q E →
      ∃ t, PSs (cxOf CX P w K mg base N qual (defScope st) a cdv A outer s H E) (defBody st) t ∧ t { nx := fun _ H' => Q .non H', rt := Q } (start N vs) H) : AOk P w K mg base CX (k + 1) a ps sp :=
  let ⟨fd, _, b, c⟩ := mkFX F hb S len hbody
  ⟨fd, b, c⟩
theorem mkF (F : ∃ fd, FunD K nm qual (defArgs st) (defBody st) (defScope st) [] [] a fd)
    (hb : ∀ (kV doc pm : Value) (an : Option Addr) (cdv ct : Value) (us : List Value), us.length = ps.length → bindArgs (PySem.W.fnOf nm qual (defArgs st) (defBody st) (defScope st) .none kV doc pm an cdv ct) ⟨us, []⟩ = pure (ps.zip us))
    (S : FnScope N ps (defScope st)) (len : ∀ vs H Q E, sp vs H Q E → vs.length = ps.length)
    (hbody : ∀ (cdv : Value) (A : Around) (outer : List Env) (s : Shared) (H : Hp) (vs : List V) (Q : VK) (E : XK), Room k (A.deeper (envOfC qual (defScope st) s.heap.objs.size a cdv)) → sp vs H Q E →
      ∃ t, PSs (cxOf CX P w K mg base N qual (defScope st) a cdv A outer s H E).nox (defBody st) t ∧ t { nx := fun _ H' => Q .non H', rt := Q } (start N vs) H) :
    ∃ fd, PySem.W.keepIn K (.ref a) = true ∧ Binds K fd ps [] ∧ FnOk P w K mg base CX (k + 1) a fd ps sp := by
  obtain ⟨fd, F⟩ := F
  exact ⟨fd, F.kp, F.bindsN hb, F.ok S len fun cdv A outer s H vs Q E hr h => let ⟨t, h1, h2⟩ := hbody cdv A outer s H vs Q E hr h; ⟨t, h1.nox, h2⟩⟩
theorem mkG (g : mg nm = some (.ref (ga K nm))) (F : ∃ fd, FunD K nm qual (defArgs st) (defBody st) (defScope st) [] [] (ga K nm) fd)
    (hb : ∀ (kV doc pm : Value) (an : Option Addr) (cdv ct : Value) (us : List Value), us.length = ps.length → bindArgs (PySem.W.fnOf nm qual (defArgs st) (defBody st) (defScope st) .none kV doc pm an cdv ct) ⟨us, []⟩ = pure (ps.zip us))
    (S : FnScope N ps (defScope st)) (len : ∀ vs H Q E, sp vs H Q E → vs.length = ps.length)
    (hbody : ∀ (cdv : Value) (A : Around) (outer : List Env) (s : Shared) (H : Hp) (vs : List V) (Q : VK) (E : XK), Room k (A.deeper (envOfC qual (defScope st) s.heap.objs.size (ga K nm) cdv)) → sp vs H Q E →
      ∃ t, PSs (cxOf CX P w K mg base N qual (defScope st) (ga K nm) cdv A outer s H E).nox (defBody st) t ∧ t { nx := fun _ H' => Q .non H', rt := Q } (start N vs) H) : GOk P w K mg base CX (k + 1) nm ps sp :=
  ⟨g, mkF F hb S len hbody⟩
theorem mkA (F : ∃ fd, FunD K nm qual (defArgs st) (defBody st) (defScope st) [] [] a fd)
    (hb : ∀ (kV doc pm : Value) (an : Option Addr) (cdv ct : Value) (us : List Value), us.length = ps.length → bindArgs (PySem.W.fnOf nm qual (defArgs st) (defBody st) (defScope st) .none kV doc pm an cdv ct) ⟨us, []⟩ = pure (ps.zip us))
    (S : FnScope N ps (defScope st)) (len : ∀ vs H Q E, sp vs H Q E → vs.length = ps.length)
    (hbody : ∀ (cdv : Value) (A : Around) (outer : List Env) (s : Shared) (H : Hp) (vs : List V) (Q : VK) (E : XK), Room k (A.deeper (envOfC qual (defScope st) s.heap.objs.size a cdv)) → sp vs H Q E →
      ∃ t, PSs (cxOf CX P w K mg base N qual (defScope st) a cdv A outer s H E).nox (defBody st) t ∧ t { nx := fun _ H' => Q .non H', rt := Q } (start N vs) H) : AOk P w K mg base CX (k + 1) a ps sp :=
  let ⟨fd, _, b, c⟩ := mkF F hb S len hbody
  ⟨fd, b, c⟩
end
theorem lk_hd {f : Str} {v : V} {l : List (Str × V)} : ((f, v) :: l).lookup f = some v := by simp [List.lookup]
theorem same_upd {H : Hp} {p : Addr} {o : HO} (h : H p = none) : Same H (upd H p o) := fun b x e => by
  rw [upd_ne (ne_of_none e h)]
  exact e
/-- isinstance(x, C), x an instance of an own class -/
theorem call_isiO {X : Cx} : CallR X (.builtin "isinstance") (rIsi X.K) := call_isi
/-! ### isinstance: what the classes must say -/
structure IsiF (K : PySem.W.Frag) (C : Addr) : Prop where
  cl : Cls K C
  ha : PySem.W.findIn K (.ref C) "__class__" = some (some (.builtin "object.__class__"))
  hn : PySem.W.specialIn K (.builtin "object.__class__") "__get__" = some (some (.builtin "getset_descriptor.__get__"))
  ht : PySem.W.takesIn K (.builtin "object.__class__") = some true
  hm : PySem.W.mroIn K C (.type "object") = some true
def isiB (K : PySem.W.Frag) (x : Str) : Bool := (He.Fa.cls x).ok K && (eqO (PySem.W.findIn K (.ref (ga K x)) "__class__") (some (some (.builtin "object.__class__"))) && (eqO (PySem.W.specialIn K (.builtin "object.__class__") "__get__") (some (some (.builtin "getset_descriptor.__get__"))) &&
  (decide (PySem.W.takesIn K (.builtin "object.__class__") = some true) && decide (PySem.W.mroIn K (ga K x) (.type "object") = some true))))
theorem isi_ok {K : PySem.W.Frag} {x : Str} (h : isiB K x = true) : IsiF K (ga K x) := by
  obtain ⟨h1, h⟩ := ba h
  obtain ⟨h2, h⟩ := ba h
  obtain ⟨h3, h⟩ := ba h
  obtain ⟨h4, h5⟩ := ba h
  exact ⟨He.cls_ok h1, eqO_ok h2, eqO_ok h3, of_decide_eq_true h4, of_decide_eq_true h5⟩
theorem IsiF.ty {K : PySem.W.Frag} {C a dx : Addr} {fs : List (Str × V)} {H : Hp} (F : IsiF K C) (e : H a = some (.ins C dx fs)) : TyX K H (.ref a) (.ref C) := .base (.ins e F.cl F.ha F.hn F.ht F.hm)
def excCB (K : PySem.W.Frag) (x : Str) : Bool := eqO (PySem.W.findIn K (.ref (ga K x)) "__getattribute__") (some (some (.builtin "BaseException.__getattribute__"))) && (eqO (PySem.W.findIn K (.ref (ga K x)) "__getattr__") (some none) &&
  (decide (PySem.W.subIn K (.ref (ga K x)) (.type "BaseException") = some true) && (PySem.W.hasDictIn K (ga K x) && (eqO (PySem.W.findIn K (.ref (ga K x)) "__class__") (some (some (.builtin "object.__class__"))) && (eqO (PySem.W.specialIn K (.builtin "object.__class__") "__get__") (some (some (.builtin "getset_descriptor.__get__"))) &&
  (decide (PySem.W.takesIn K (.builtin "object.__class__") = some true) && decide (PySem.W.mroIn K (ga K x) (.type "object") = some true)))))))
theorem excC_ok {K : PySem.W.Frag} {x : Str} (h : excCB K x = true) : ExcC K (ga K x) := by
  obtain ⟨h1, h⟩ := ba h
  obtain ⟨h2, h⟩ := ba h
  obtain ⟨h3, h⟩ := ba h
  obtain ⟨h4, h⟩ := ba h
  obtain ⟨h5, h⟩ := ba h
  obtain ⟨h6, h⟩ := ba h
  obtain ⟨h7, h8⟩ := ba h
  exact ⟨eqO_ok h1, eqO_ok h2, of_decide_eq_true h3, h4, eqO_ok h5, eqO_ok h6, of_decide_eq_true h7, of_decide_eq_true h8⟩
def kitB (K : PySem.W.Frag) (x y : Str) (b : Bool) : Bool := decide (PySem.W.kitOne K (.ref (ga K x)) (.ref (ga K y)) = some b)
/-! ### is True, is False -/
def rIsBo : R2 := fun x y H Q => ∃ b : Bool, y = .bl b ∧ Q (.bl (decide (x = .bl b))) H
section
variable {X : Cx}
theorem op_isB : OpR X (compareOp .Is) rIsBo := by
  intro pins s σ H x y v u Q I rx ry h
  obtain ⟨b, rfl, q⟩ := h
  cases (show u = Value.bool b from ry)
  by_cases e : x = .bl b
  · subst e
    cases (show v = Value.bool b from rx)
    exact wpAny_is_self rfl ⟨.bl true, H, I, rfl, by simpa using q⟩
  · refine wpAny_is_other (by cases x <;> first | (cases rx; rfl) | (obtain ⟨t, rfl⟩ := rx; rfl)) (fun z => ?_) ⟨.bl false, H, I, rfl, by simpa [e] using q⟩
    cases x <;> first
      | (cases rx; exact e (by cases z; rfl))
      | (obtain ⟨t, rfl⟩ := rx; cases z)
      | (cases rx; cases z)
end
/-- a tuple of the module, as a thing with methods -/
def tupO (K : PySem.W.Frag) (x : Str) : Bool := match K.lookup (ga K x) with
  | some ⟨.type c, none, _, _⟩ => decide (c = "tuple")
  | _ => false
theorem tupO_ok {K : PySem.W.Frag} {x : Str} (h : tupO K x = true) (H : Hp) : tyV K "tuple" (.ref (ga K x)) H := by
  unfold tupO at h
  cases q : K.lookup (ga K x) with
  | none => rw [q] at h; cases h
  | some o =>
    obtain ⟨oc, od, dt, sl⟩ := o
    rw [q] at h
    cases oc with
    | type c =>
      cases od with
      | none => exact Or.inr (Or.inl ⟨rfl, _, q, congrArg Value.type (of_decide_eq_true h), rfl⟩)
      | some d => cases h
    | _ => cases od <;> cases h
/-- a statement, and what follows it from whatever it leaves -/
theorem seq_rest {A B : TS} {D : Ends} {σ : L2.St} {H : Hp} (W : L2.St → Hp → Prop) (h : ∀ nx : L2.St → Hp → Prop, (∀ σ' H', W σ' H' → nx σ' H') → A { D with nx := nx } σ H) (r : ∀ σ' H', W σ' H' → B D σ' H') : tSeq A B D σ H := h (B D) r
theorem dI (a b : Int) : decide (V.int a = V.int b) = decide (a = b) := by simp only [V.int.injEq]
theorem dS (a b : Str) : decide (V.str a = V.str b) = decide (a = b) := by simp only [V.str.injEq]
theorem dB (a b : Bool) : decide (V.bl a = V.bl b) = decide (a = b) := by simp only [V.bl.injEq]
theorem fmod_lo {a b : Int} (h : 0 < b) : 0 ≤ a.fmod b := by rw [Int.fmod_eq_emod_of_nonneg _ (Int.le_of_lt h)]; exact Int.emod_nonneg _ (by omega)
theorem fmod_hi {a b : Int} (h : 0 < b) : a.fmod b < b := by rw [Int.fmod_eq_emod_of_nonneg _ (Int.le_of_lt h)]; exact Int.emod_lt_of_pos _ h
theorem atI_of {α : Type} {xs : List α} {i : Int} (h0 : 0 ≤ i) (h1 : i < xs.length) : ∃ x, atI xs i = some x ∧ xs[i.toNat]? = some x := by
  obtain ⟨j, rfl⟩ : ∃ j : Nat, i = (j : Int) := ⟨i.toNat, by omega⟩
  have hj : j < xs.length := by omega
  refine ⟨xs[j], atI_nat (List.getElem?_eq_getElem hj), ?_⟩
  rw [Int.toNat_natCast]
  exact List.getElem?_eq_getElem hj
theorem atI_map {α β : Type} {f : α → β} {xs : List α} {i : Int} (h0 : 0 ≤ i) (h1 : i < xs.length) : ∃ x, atI (xs.map f) i = some (f x) ∧ xs[i.toNat]? = some x := by
  obtain ⟨y, h2, h3⟩ := atI_of (xs := xs.map f) h0 (by rw [List.length_map]; exact h1)
  rw [List.getElem?_map] at h3
  cases e : xs[i.toNat]? with
  | none => rw [e] at h3; cases h3
  | some x =>
    rw [e] at h3
    cases h3
    exact ⟨x, h2, rfl⟩
theorem seq_skip {A B : TS} {D : Ends} {σ : L2.St} {H : Hp} (h : ∀ nx : L2.St → Hp → Prop, nx σ H → A { D with nx := nx } σ H) (r : B D σ H) : tSeq A B D σ H := h (B D) r
section
variable {K : PySem.W.Frag} {wi : TI} {g : TG} {tb : TS} {D : Ends} {σ : L2.St} {H H1 : Hp}
/-- for k in range(..) -/
theorem tfor_rng {lo : Int} {n : Nat} (Pv : Nat → L2.St → Hp → Prop) (hw : ∀ R : It → Hp → Prop, R (Itr lo n) H1 → wi σ H R) (h0 : Pv 0 σ H1)
    (hs : ∀ (i : Nat) σ H (nx : L2.St → Hp → Prop), i < n → Pv i σ H → (∀ σ' H', Pv (i + 1) σ' H' → nx σ' H') → g (.int (lo + i)) σ H fun σ2 H2 => tb { D with nx := nx, ct := nx, bk := D.nx } σ2 H2) (hd : ∀ σ H, Pv n σ H → D.nx σ H) : tFor wi g tb D σ H :=
  hw _ (for_range Pv h0 (fun i σ H hi hp => hs i σ H _ hi hp fun _ _ q => q) hd)
/-- for x in a list that stands still -/
theorem tfor_lst {a : Addr} {xs : List V} (Pv : Nat → L2.St → Hp → Prop) (hw : ∀ R : It → Hp → Prop, R (Itl K a) H1 → wi σ H R) (h0 : Pv 0 σ H1) (hl : ∀ i σ H, i ≤ xs.length → Pv i σ H → SqL K H a xs)
    (hs : ∀ (i : Nat) x σ H (nx : L2.St → Hp → Prop), xs[i]? = some x → Pv i σ H → (∀ σ' H', Pv (i + 1) σ' H' → nx σ' H') → g x σ H fun σ2 H2 => tb { D with nx := nx, ct := nx, bk := D.nx } σ2 H2) (hd : ∀ σ H, Pv xs.length σ H → D.nx σ H) : tFor wi g tb D σ H :=
  hw _ (for_list Pv h0 hl (fun i x σ H hi hp => hs i x σ H _ hi hp fun _ _ q => q) hd)
theorem tfor_tup {a : Addr} {xs : List V} (Pv : Nat → L2.St → Hp → Prop) (hw : ∀ R : It → Hp → Prop, R (Itt K a) H1 → wi σ H R) (h0 : Pv 0 σ H1) (hl : ∀ i σ H, i ≤ xs.length → Pv i σ H → SqT K H a xs)
    (hs : ∀ (i : Nat) x σ H (nx : L2.St → Hp → Prop), xs[i]? = some x → Pv i σ H → (∀ σ' H', Pv (i + 1) σ' H' → nx σ' H') → g x σ H fun σ2 H2 => tb { D with nx := nx, ct := nx, bk := D.nx } σ2 H2) (hd : ∀ σ H, Pv xs.length σ H → D.nx σ H) : tFor wi g tb D σ H :=
  hw _ (for_tup Pv h0 hl (fun i x σ H hi hp => hs i x σ H _ hi hp fun _ _ q => q) hd)
end
theorem ty_SqT {K : PySem.W.Frag} {H : Hp} {a : Addr} {xs : List V} (h : SqT K H a xs) : TyX K H (.ref a) (.type "tuple") := by
  rcases h with (h | ⟨o, h⟩) | ⟨o, its, n, h1, h2, _⟩
  · exact .base (.tup h)
  · exact .fTuple h
  · exact .kTuple h1 h2
theorem ty_SqL {K : PySem.W.Frag} {H : Hp} {a : Addr} {xs : List V} (h : SqL K H a xs) : TyX K H (.ref a) (.type "list") := by
  rcases h with (h | ⟨o, h⟩) | ⟨o, its, n, h1, h2, _⟩
  · exact .base (.lst h)
  · exact .base (.frz h)
  · exact .kList h1 h2
theorem DpAll.len {K : PySem.W.Frag} {H : Hp} : ∀ {xs : List V} {ds : List PyData}, DpAll K H xs ds → xs.length = ds.length
  | _, _, .nil => rfl
  | _, _, .cons _ t => congrArg Nat.succ (DpAll.len t)
theorem DpAll.get {K : PySem.W.Frag} {H : Hp} : ∀ {xs : List V} {ds : List PyData} {i : Nat} {d : PyData}, DpAll K H xs ds → ds[i]? = some d → ∃ x, xs[i]? = some x ∧ Dp K H x d
  | _, _, _, _, .nil, e => by simp at e
  | _, _, 0, _, .cons h _, e => by simp at e; subst e; exact ⟨_, rfl, h⟩
  | _, _, i + 1, d, .cons _ t, e => by
    obtain ⟨x, h1, h2⟩ := DpAll.get (i := i) (d := d) t (by simpa using e)
    exact ⟨x, by simpa using h1, h2⟩
/-! ### calls in a try's body -/
section
variable {X : Cx} {CX : CXT} {k : Nat} {x : Str} {ps : List Str} {sp : Sp} {E : L2.St → XK} {e : Expr} {es : List Expr} {p pos apos : Pos} {t : TA} {ta : TE} {m : Str} {o : Expr} {C : Addr}
theorem pe_gS (G : GOk X.prog X.w X.K X.mg X.base CX k x ps sp) (hr : Room k X.A) (hx : ∀ σ, PassesAt CX X σ (E σ)) (ha : PA X (e :: es) t) (hg : Gl X x := by rfl)
    (hdb : (x == ("__debug__" : Str)) = false := by decide) (he : starEach (e :: es) X.env = (false, eval e X.env) :: starEach es X.env := by rfl) (hpl : (backTo pos (starEach es X.env)).any (·.1) = false := by rfl) :
    PE X (.Call (.Name x p) (e :: es) [] pos) (tCallS sp E t) := by
  obtain ⟨fd, h1, h2, h3⟩ := G.ex
  exact pe_callS h3 hr hg G.g h1 h2 hx ha hdb he hpl
def tStatS (C : Addr) (sp : Sp) (E : L2.St → XK) (ta : TE) (t : TA) : TE := fun σ H Q => ta σ H fun x H1 => x = .ref C ∧ t σ H1 fun vs H2 => sp vs H2 Q (E σ)
theorem pe_sS {pl : Sem Bool} {K : PySem.W.Frag} (G : AOk X.prog X.w X.K X.mg X.base CX k (sg K x m) ps sp) (r : readB K x = true) (c : statB K x m = true) (hr : Room k X.A) (hx : ∀ σ, PassesAt CX X σ (E σ)) (hex : PE X o ta) (ha : PA X (e :: es) t) (hK : X.K = K := by rfl)
    (hst : starEach (e :: es) X.env = (false, eval e X.env) :: starEach es X.env := by rfl) (hpl : (backTo pos (starEach es X.env)).any (·.1) = false := by rfl)
    (ht : eval (.Call (.Attribute o m apos) (e :: es) [] pos) X.env = (do
      let ov ← eval o X.env
      standAt apos.atName
      let (f, first) ← holding [ov] (getMethod ov m pl)
      callWith pos f first (backTo pos (starEach (e :: es) X.env)) (backToKw pos (keywordEach [] X.env))) := by rfl) :
    PE X (.Call (.Attribute o m apos) (e :: es) [] pos) (tStatS (ga K x) sp E ta t) := by
  subst hK
  obtain ⟨fd, h2, h3⟩ := G.ex
  obtain ⟨c1, c2⟩ := ba c
  obtain ⟨w1, rest, w2⟩ := He5.wrapB_ok c1
  have R := read_ok r
  refine ⟨fun pins s σ H Q I h => ?_⟩
  refine PySem.W.methodCall_KW (pl := pl) (thn (hex.run pins s σ H _ I h) fun u s1 ⟨y, H1, I1, rx, ex, q⟩ => ?_) ht
  subst ex
  obtain rfl : u = Value.ref (ga X.K x) := rx
  refine PySem.W.method_cls I1.kIn R.ga (PySem.W.cls_bind I1.kIn R.rd w1 (wpAny_call (PySem.W.sm_get (s := { s1 with toks := s1.toks + 1 }) I1.kIn w2 (PySem.W.handed_on rfl ?_))))
  have I2 := I1.tok (s1.toks + 1)
  refine PySem.W.callWith_K (h₀ := X.base) I2.ok.mod.kin c2 (thn (ha.run pos pins _ σ H1 _ I2 q) fun us s3 ⟨vs, H2, I3, rv, q2⟩ => ⟨I3.kIn, ?_⟩) hst hpl
  exact run_fnS h3 hr h2 (hx σ) I3 rv q2
/-- isinstance(e, C), e the exception that the suite holds, of whatever own class -/
theorem call_isEx {a : Addr} {oe : Obj} {cls : Value} {d : Option Addr} {pn : List (Addr × Obj)} (hz : Zc cls d oe) (hf : ∃ vs, oe.data = .fields vs) :
    CallR (X.suite a ((a, oe) :: pn)) (.builtin "isinstance") (fun xs H Q => ∃ D, cls = .ref D ∧ d = none ∧ ExcC X.K D ∧ rIsE X.K D a xs H Q) := by
  intro pins s σ H xs us Q I r h
  obtain ⟨D, rfl, rfl, c, q⟩ := h
  exact call_isE c hz hf pins s σ H xs us Q I r q
end
theorem op_notIn_seqK {X : Cx} {K : PySem.W.Frag} (h : X.K = K := by rfl) : OpR X (compareOp .NotIn) (rIn K true) := h ▸ op_notIn_seq
theorem op_in_seqK {X : Cx} {K : PySem.W.Frag} (h : X.K = K := by rfl) : OpR X (compareOp .In) (rIn K false) := h ▸ op_in_seq
theorem mkL {P : Program} {w : World} {K : PySem.W.Frag} {mg : Str → Option Value} {base : Heap} {nm qual : Str} {st : Stmt} {N ps : List Str} {k : Nat} {CX : CXT} {sp : Sp} {a : Addr} {fd : FuncData} (F : FunD K nm qual (defArgs st) (defBody st) (defScope st) [] [] a fd)
    (S : FnScope N ps (defScope st)) (len : ∀ vs H Q E, sp vs H Q E → vs.length = ps.length)
    (hbody : ∀ (cdv : Value) (A : Around) (outer : List Env) (s : Shared) (H : Hp) (vs : List V) (Q : VK) (E : XK), Room k (A.deeper (envOfC qual (defScope st) s.heap.objs.size a cdv)) → sp vs H Q E →
      ∃ t, PSs (cxOf CX P w K mg base N qual (defScope st) a cdv A outer s H E).nox (defBody st) t ∧ t { nx := fun _ H' => Q .non H', rt := Q } (start N vs) H) : FnOk P w K mg base CX (k + 1) a fd ps sp :=
  F.ok S len fun cdv A outer s H vs Q E hr h => let ⟨t, h1, h2⟩ := hbody cdv A outer s H vs Q E hr h; ⟨t, h1.nox, h2⟩
end Hk

end
section
set_option Elab.async false
set_option linter.all false
set_option maxRecDepth 100000
set_option maxHeartbeats 4000000
/-! Own error classes whose __init__ stores fields: facts by one Bool; C() without arguments. -/
namespace Hk
open PySem PySem.Spec PyProof.Rows L2
open He (ga ma ba eqO eqO_ok)
/-- the shape of such a class -/
def shapeB (K : PySem.W.Frag) (C : Addr) : Bool := match K.lookup C with
  | some ⟨.type "type", _, .cls c, v⟩ => (match c.mro, v.toList with
    | .ref D :: l, [_, _, _, _, some (.builtin n), _] => (D == C && n == "ValueError.__new__") && ((!c.hasDel && c.hasDict) && PySem.HandSPX.refsVE l)
    | _, _ => false)
  | _ => false
theorem shape_ok {K : PySem.W.Frag} {C : Addr} (h : shapeB K C = true) : ∃ nm q N bs bm sn sub ab col dd k0 k1 k2 k3 k5, K.lookup C = some (excClassObj nm q C N bs bm true sn sub ab col dd k0 k1 k2 k3 k5 "ValueError.__new__") ∧ PySem.HandSPX.refsVE bm = true := by
  unfold shapeB at h
  split at h
  · rename_i dd c v e
    split at h
    · rename_i D l a0 a1 a2 a3 n a5 em es
      obtain ⟨h1, h2⟩ := ba h
      obtain ⟨h11, h12⟩ := ba h1
      obtain ⟨h21, h22⟩ := ba h2
      obtain ⟨h3, h4⟩ := ba h21
      obtain rfl := beq_iff_eq.mp h11
      obtain rfl := beq_iff_eq.mp h12
      obtain ⟨nm, bs, mro, ns, qn, hd, sn, sub, ab, col, dl⟩ := c
      obtain ⟨v⟩ := v
      dsimp only at em es h3 h4
      obtain rfl : dl = false := by cases dl with | false => rfl | true => cases h3
      subst em es h4
      exact ⟨nm, qn, ns, bs, l, sn, sub, ab, col, dd, a0, a1, a2, a3, a5, e, h22⟩
    · cases h
  · cases h
def oexB (K : PySem.W.Frag) (x : Str) : Bool := (shapeB K (ga K x) && eqO (PySem.W.findIn K (.ref (ga K x)) "__setattr__") (some (some (.builtin "object.__setattr__")))) && ((decide (PySem.W.subIn K (.ref (ga K x)) (.type "BaseException") = some true) && decide (PySem.W.typeIn K (.ref (ga K x)) = some (.type "type"))) && (PySem.W.keepIn K (.ref (ga K x))))
theorem oex_ok {K : PySem.W.Frag} {x : Str} (h : oexB K x = true) : OexC K (ga K x) := by
  obtain ⟨h1, h2⟩ := ba h
  obtain ⟨h3, h4⟩ := ba h1
  obtain ⟨h5, h6⟩ := ba h2
  obtain ⟨h7, h8⟩ := ba h5
  exact ⟨shape_ok h3, eqO_ok h4, of_decide_eq_true h7, of_decide_eq_true h8, h6⟩
/-- its __init__ -/
def xinB (K : PySem.W.Frag) (x : Str) : Bool := eqO (PySem.W.findIn K (.ref (ga K x)) "__init__") (some (some (.ref (mt K x "__init__")))) && decide (PySem.W.typeIn K (.ref (mt K x "__init__")) = some (.type "function"))
structure XIn (K : PySem.W.Frag) (x : Str) : Prop where
  fi : PySem.W.findIn K (.ref (ga K x)) "__init__" = some (some (.ref (mt K x "__init__")))
  ty : PySem.W.typeIn K (.ref (mt K x "__init__")) = some (.type "function")
theorem xin_ok {K : PySem.W.Frag} {x : Str} (h : xinB K x = true) : XIn K x := let ⟨a, b⟩ := ba h; ⟨eqO_ok a, of_decide_eq_true b⟩
def noxB (K : PySem.W.Frag) (x f : Str) : Bool := eqO (PySem.W.findIn K (.ref (ga K x)) f) (some none)
section
variable {X : Cx} {CX : CXT} {k : Nat} {x : Str} {ps : List Str} {sp : Sp} {p pos : Pos}
/-- C(), C's own __init__ keeping sp -/
theorem pmk_oex0 {C fI : Addr} {fd : FuncData} (T : OexC X.K C) (iC : PySem.W.findIn X.K (.ref C) "__init__" = some (some (.ref fI))) (tI : PySem.W.typeIn X.K (.ref fI) = some (.type "function")) (F1 : FnOk X.prog X.w X.K X.mg X.base CX k fI fd ps sp)
    (hr : Room (k + 1) X.A) (hb : Binds X.K fd ps []) (hx : Passes CX X (fun _ _ _ => False)) (hg : Gl X x) (hm : X.mg x = some (.ref C)) (hdb : (x == ("__debug__" : Str)) = false := by decide) :
    PMk X (.Call (.Name x p) [] [] pos) (fun σ H Q => ∀ a, H a = none → sp [.ref a] (upd H a (exo a C none)) (fun v H2 => v = .non ∧ ∃ (d : Addr) (fs : List (Str × V)), H2 a = some (exo a C (some d)) ∧ H2 d = some (exd d fs) ∧ H d = none ∧ Q (.ref C) (some d) (upd (del H2 a) d (.xd fs))) (fun _ _ _ => False)) := by
  intro pins s σ H Q I h
  obtain ⟨nm, q, N, bs, bm, sn, sub, ab, col, dd, k0, k1, k2, k3, k5, hC, hbm⟩ := T.cls
  refine wpAny_Call_Name_kw (ld_glob I hg hm (PySem.W.callWith_K0 I.kIn T.kC ?_) hdb)
  obtain ⟨g0, gs, dr, tk, os⟩ := s
  have z1 : g0.objs.size ≤ g0.objs.size + 1 := Nat.le_succ _
  have hq := h (g0.objs.size + 1) (I.hok.fresh z1)
  have kk : ∀ b o, g0.get? b = some o → ((g0.push (PySem.W.kdv_tup [])).push (PySem.HandSPX.excO C g0.objs.size)).get? b = some o :=
    fun b o e => Heap.get?_push_of_some _ (Heap.get?_push_of_some _ e)
  have I2 : Inv X pins σ (upd H (g0.objs.size + 1) (exo (g0.objs.size + 1) C none)) ⟨(g0.push (PySem.W.kdv_tup [])).push (PySem.HandSPX.excO C g0.objs.size), gs, dr, tk, os⟩ :=
    Inv.laid (t' := tk) I kk z1 (exo_ok (t1 := g0.objs.size) (by heap_get))
  have r2 : Vals [V.ref (g0.objs.size + 1)] (Value.ref (g0.objs.size + 1) :: ([] : List Value)) := .cons rfl .nil
  have hl : (Value.ref (g0.objs.size + 1) :: ([] : List Value)).length = ps.length := (F1.len _ _ _ _ hq).symm ▸ rfl
  show wpAny _ _ (call (.ref C) []) _ _ _
  have run1 := F1.run _ X.stack _ _ ⟨[Value.ref (g0.objs.size + 1)], []⟩ [Value.ref (g0.objs.size + 1)] _ _ (fun _ _ _ => False) (hr.make C [] []) (I2.env0.make C [] []) (hb _ [Value.ref (g0.objs.size + 1)] I2.kIn hl) r2 hq
  refine wpAny_call (PySem.HandSPX.call_own F.excBase_ValueError (fun Y => PySem.HandSPX.refsVE_contains Y bm hbm) (I.kIn _ _ hC) (PySem.W.looks_findIn I.kIn iC) (fun self => PySem.W.bind_fn I.kIn self tI) (Nat.zero_le _) (codeAny_mono run1 (fun r s' hq' => ?_)))
  cases r with
  | error er => exact hx pins σ _ _ er s' I2 hq'
  | ok fl =>
    cases fl with
    | ret u =>
        obtain ⟨v, H2, o2, b2, un2, hk2, rv, ev, d, fs, ea, ed, hd1, q2⟩ := hq'
        obtain rfl := ev
        exact ⟨rv, mk_end (raises_own T.exC T.tyC) I z1 kk un2 hk2 o2 b2 ea ed hd1 q2⟩
    | next => exact hq'.elim
    | brk => exact hq'.elim
    | cont => exact hq'.elim
end
end Hk
namespace Hk
open PySem PySem.Spec PyProof.Rows L2
open He (ga ma ba eqO eqO_ok)
section
variable {X : Cx} {CX : CXT} {k : Nat} {x : Str} {ps : List Str} {sp : Sp} {p pos : Pos}
theorem pmk_x0 {K : PySem.W.Frag} (T : OexC K (ga K x)) (I : XIn K x) (G : AOk X.prog X.w K X.mg X.base CX k (mt K x "__init__") ps sp) (hr : Room (k + 1) X.A) (hx : Passes CX X (fun _ _ _ => False)) (hm : X.mg x = some (.ref (ga K x))) (hK : X.K = K := by rfl) (hg : Gl X x := by rfl)
    (hdb : (x == ("__debug__" : Str)) = false := by decide) :
    PMk X (.Call (.Name x p) [] [] pos) (fun σ H Q => ∀ a, H a = none → sp [.ref a] (upd H a (exo a (ga K x) none)) (fun v H2 => v = .non ∧ ∃ (d : Addr) (fs : List (Str × V)), H2 a = some (exo a (ga K x) (some d)) ∧ H2 d = some (exd d fs) ∧ H d = none ∧ Q (.ref (ga K x)) (some d) (upd (del H2 a) d (.xd fs))) (fun _ _ _ => False)) := by
  subst hK
  obtain ⟨fd, b, c⟩ := G.ex
  exact pmk_oex0 T I.fi I.ty c hr b hx hg hm hdb
end
end Hk

end
section
set_option Elab.async false
set_option linter.all false
set_option maxRecDepth 100000
set_option maxHeartbeats 4000000
/-! isinstance of a caught error that has fields. -/
namespace Hk
open PySem PySem.Spec PyProof.Rows L2
open He (ga ma ba eqO eqO_ok)
section
variable {X : Cx} {a : Addr} {oe : Obj} {cls : Value} {d : Option Addr} {pn : List (Addr × Obj)}
theorem call_isEd (hz : Zc cls d oe) (hf : ∃ vs, oe.data = .fields vs) :
    CallR (X.suite a ((a, oe) :: pn)) (.builtin "isinstance") (fun xs H Q => ∃ (D dd : Addr) (fs : List (Str × V)), cls = .ref D ∧ d = some dd ∧ H dd = some (.xd fs) ∧ ExcC X.K D ∧ rIsE X.K D a xs H Q) := by
  rintro pins s σ H xs us Q I r ⟨D, dd, fs, rfl, rfl, ex, C, c, cv, b, rfl, hcv, e, q⟩
  match us, r with
  | [u1, u2], .cons rx (.cons rt .nil) =>
    obtain rfl : u1 = Value.ref a := rx
    obtain rfl := hcv _ rt
    obtain ⟨ha, _⟩ := I.pin (a, oe) (List.mem_append_left _ List.mem_cons_self)
    obtain ⟨ws, hd⟩ := hf
    have hx : ObjOk X.prog X.w H s.heap dd (.xd fs) := I.hok dd _ ex
    obtain ⟨mA, hns, _⟩ := hx
    obtain ⟨od, ho, _⟩ := lookIn_ns hns
    have J : PySem.W.InstAt s.heap a oe D (some od) := ⟨ha, hz.1, by unfold PySem.W.notCls; rw [hd] <;> rfl, by rw [hz.2]; exact ho⟩
    have hcl : (PySem.W.clsIn X.K D).isSome = true := by
      obtain ⟨cd, hc, _⟩ := PySem.W.any_some C.hd
      rw [hc] <;> rfl
    exact PySem.W.kia_one (PySem.W.kitx_exc hcl C.hg C.hk C.hs C.ha C.hn C.ht C.hm) I.kIn J e nofun fun tk => ⟨.bl b, H, I.kept (t' := tk) fun _ _ z => z, rfl, q⟩
end
end Hk

end
section
set_option Elab.async false
set_option linter.all false
set_option maxRecDepth 100000
set_option maxHeartbeats 4000000
/-! Errors whose context is None; defs called within an except suite. -/
namespace Hk
open PySem PySem.Spec PyProof.Rows L2
open He (ga ma ba eqO eqO_ok)
section
variable {X : Cx} {CX : CXT} {k : Nat} {x : Str} {ps : List Str} {sp : Sp} {p pos : Pos} {E : L2.St → XK} {e : Expr} {es : List Expr} {t : TA}
theorem pmkN_x0 {K : PySem.W.Frag} (T : OexC K (ga K x)) (Y : XIn K x) (G : AOk X.prog X.w K X.mg X.base CX k (mt K x "__init__") ps sp) (hr : Room (k + 1) X.A) (hx : Passes CX X (fun _ _ _ => False)) (hm : X.mg x = some (.ref (ga K x))) (hK : X.K = K := by rfl) (hg : Gl X x := by rfl)
    (hdb : (x == ("__debug__" : Str)) = false := by decide) :
    L2N.PMk X (.Call (.Name x p) [] [] pos) (fun σ H Q => ∀ a, H a = none → sp [.ref a] (upd H a (exo a (ga K x) none)) (fun v H2 => v = .non ∧ ∃ (d : Addr) (fs : List (Str × V)), H2 a = some (exo a (ga K x) (some d)) ∧ H2 d = some (exd d fs) ∧ H d = none ∧ Q (.ref (ga K x)) (some d) (upd (del H2 a) d (.xd fs))) (fun _ _ _ => False)) := by
  subst hK
  obtain ⟨fd, hb, F1⟩ := G.ex
  intro pins s σ H Q I h
  obtain ⟨nm, q, N, bs, bm, sn, sub, ab, col, dd, k0, k1, k2, k3, k5, hC, hbm⟩ := T.cls
  refine wpAny_Call_Name_kw (ld_glob I hg hm (PySem.W.callWith_K0 I.kIn T.kC ?_) hdb)
  obtain ⟨g0, gs, dr, tk, os⟩ := s
  have z1 : g0.objs.size ≤ g0.objs.size + 1 := Nat.le_succ _
  have hq := h (g0.objs.size + 1) (I.hok.fresh z1)
  have kk : ∀ b o, g0.get? b = some o → ((g0.push (PySem.W.kdv_tup [])).push (PySem.HandSPX.excO (ga X.K x) g0.objs.size)).get? b = some o :=
    fun b o e => Heap.get?_push_of_some _ (Heap.get?_push_of_some _ e)
  have I2 : Inv X pins σ (upd H (g0.objs.size + 1) (exo (g0.objs.size + 1) (ga X.K x) none)) ⟨(g0.push (PySem.W.kdv_tup [])).push (PySem.HandSPX.excO (ga X.K x) g0.objs.size), gs, dr, tk, os⟩ :=
    Inv.laid (t' := tk) I kk z1 (exo_ok (t1 := g0.objs.size) (by heap_get))
  have r2 : Vals [V.ref (g0.objs.size + 1)] (Value.ref (g0.objs.size + 1) :: ([] : List Value)) := .cons rfl .nil
  have hl : (Value.ref (g0.objs.size + 1) :: ([] : List Value)).length = ps.length := (F1.len _ _ _ _ hq).symm ▸ rfl
  show wpAny _ _ (call (.ref (ga X.K x)) []) _ _ _
  have run1 := F1.run _ X.stack _ _ ⟨[Value.ref (g0.objs.size + 1)], []⟩ [Value.ref (g0.objs.size + 1)] _ _ (fun _ _ _ => False) (hr.make (ga X.K x) [] []) (I2.env0.make (ga X.K x) [] []) (hb _ [Value.ref (g0.objs.size + 1)] I2.kIn hl) r2 hq
  refine wpAny_call (PySem.HandSPX.call_own F.excBase_ValueError (fun Z => PySem.HandSPX.refsVE_contains Z bm hbm) (I.kIn _ _ hC) (PySem.W.looks_findIn I.kIn Y.fi) (fun self => PySem.W.bind_fn I.kIn self Y.ty) (Nat.zero_le _) (codeAny_mono run1 (fun r s' hq' => ?_)))
  cases r with
  | error er => exact hx pins σ _ _ er s' I2 hq'
  | ok fl =>
    cases fl with
    | ret u =>
      obtain ⟨v, H2, o2, b2, un2, hk2, rv, ev, d, fs, ea, ed, hd1, q2⟩ := hq'
      obtain rfl := ev
      obtain ⟨h2, gs2, dr2, tk2, os2⟩ := s'
      obtain ⟨u0, G2, J, kG, ge, hoe, na⟩ := mk_end0 (d2 := dr2) (t2 := tk2) I z1 kk un2 hk2 o2 b2 ea ed hd1
      exact ⟨rv, g0.objs.size + 1, _, _, ⟨G2, gs2, dr2, tk2, os2⟩, _, .ref (ga X.K x), some d, rfl, J, kG, ge, hoe, ⟨rfl, rfl, fun vs hv => by cases hv; rfl⟩, rfl, rfl, na, rfl, b2, raises_own T.exC T.tyC, q2⟩
    | next => exact hq'.elim
    | brk => exact hq'.elim
    | cont => exact hq'.elim
theorem takesN0 : L2N.Takes X (fun _ _ _ _ => False) := fun _ _ x => by
  obtain ⟨_, _, _, _, _, _, _, _, _, _, _, _, _, _, _, _, z⟩ := x
  exact z.elim
theorem passA0 {E : XK} (σ : L2.St) : PassesAt CX0 X σ E := fun _ _ _ _ _ _ h => h.elim
/-! ### defs called in a suite -/
structure GOkH (P : Program) (w : World) (K : PySem.W.Frag) (mg : Str → Option Value) (base : Heap) (CX : CXT) (k : Nat) (x : Str) (ps : List Str) (sp : Sp) : Prop where
  g : mg x = some (.ref (ga K x))
  ex : ∃ fd, PySem.W.keepIn K (.ref (ga K x)) = true ∧ Binds K fd ps [] ∧ L2H.FnH P w K mg base CX k (ga K x) fd ps sp
theorem pe_gH (G : GOkH X.prog X.w X.K X.mg X.base CX k x ps sp) (hr : L2H.RoomH k X.A) (hc : L2H.HotC X) (hx : ∀ σ, PassesAt CX X σ (E σ)) (ha : PA X (e :: es) t) (hg : Gl X x := by rfl)
    (hdb : (x == ("__debug__" : Str)) = false := by decide) (he : starEach (e :: es) X.env = (false, eval e X.env) :: starEach es X.env := by rfl) (hpl : (backTo pos (starEach es X.env)).any (·.1) = false := by rfl) :
    PE X (.Call (.Name x p) (e :: es) [] pos) (tCallS sp E t) := by
  obtain ⟨fd, h1, h2, h3⟩ := G.ex
  exact L2H.pe_callH h3 hr hc hg G.g h1 h2 hx ha hdb he hpl
theorem hot_suite {a : Addr} {oe : Obj} {cls : Value} {d : Option Addr} {pn : List (Addr × Obj)} (hz : L2N.Zn cls d oe) (hf : ∃ vs, oe.data = .fields vs) : L2H.HotC (X.suite a ((a, oe) :: pn)) := by
  obtain ⟨vs, hd⟩ := hf
  exact ⟨(a, oe), ⟨rfl, vs, hd, hz.2.2 vs hd⟩, List.mem_cons_self⟩
end
section
variable {P : Program} {w : World} {K : PySem.W.Frag} {mg : Str → Option Value} {base : Heap} {nm qual : Str} {st : Stmt} {N ps : List Str} {k : Nat} {CX : CXT} {sp : Sp}
theorem mkGH (g : mg nm = some (.ref (ga K nm))) (F : ∃ fd, FunD K nm qual (defArgs st) (defBody st) (defScope st) [] [] (ga K nm) fd)
    (hb : ∀ (kV doc pm : Value) (an : Option Addr) (cdv ct : Value) (us : List Value), us.length = ps.length → bindArgs (PySem.W.fnOf nm qual (defArgs st) (defBody st) (defScope st) .none kV doc pm an cdv ct) ⟨us, []⟩ = pure (ps.zip us))
    (S : FnScope N ps (defScope st)) (len : ∀ vs H Q E, sp vs H Q E → vs.length = ps.length)
    (hbody : ∀ (cdv : Value) (A : Around) (outer : List Env) (s : Shared) (H : Hp) (vs : List V) (Q : VK) (E : XK) (p : Addr × Obj), L2H.HotC (L2H.cxH CX P w K mg base N qual (defScope st) (ga K nm) cdv A outer s H E p).nox → L2H.RoomH k (A.deeper (envOfC qual (defScope st) s.heap.objs.size (ga K nm) cdv)) → sp vs H Q E →
      ∃ t, PSs (L2H.cxH CX P w K mg base N qual (defScope st) (ga K nm) cdv A outer s H E p).nox (defBody st) t ∧ t { nx := fun _ H' => Q .non H', rt := Q } (start N vs) H) : GOkH P w K mg base CX (k + 1) nm ps sp := by
  obtain ⟨fd, F⟩ := F
  have F' := F.bindsN hb
  have kp := F.kp
  obtain ⟨oc, od, dV, kV, doc, pm, an, cdv, ct, osl, rfl, lk, hcd, _, _⟩ := F.ex
  refine ⟨g, _, kp, F', L2H.fn_ofH lk hcd S len fun A outer s H vs Q E p hot hr hsp => ?_⟩
  obtain ⟨t, h1, h2⟩ := hbody cdv A outer s H vs Q E p ⟨p, hot, List.mem_cons_self⟩ hr hsp
  exact ⟨t, h1.nox, h2⟩
end
end Hk
namespace Hk
open PySem PySem.Spec PyProof.Rows L2
theorem sl_tupAK {X : Cx} {K : PySem.W.Frag} (h : X.K = K := by rfl) : SlR X (rSlA K) := h ▸ sl_tupA
theorem op_catAK {X : Cx} {K : PySem.W.Frag} (h : X.K = K := by rfl) : OpR X (binaryOp .Add) (rCatA K) := h ▸ op_catA
end Hk

end
section
set_option Elab.async false
set_option linter.all false
set_option maxRecDepth 100000
set_option maxHeartbeats 4000000
/-! The hook of facts with tables (dicts of the top with text keys); keyword-only parameters. -/
namespace Hk
open PySem PySem.Spec PyProof.Rows L2
open He (ga ma ba eqO eqO_ok frG frG_in)
open He5 (DefA fnA asA wf)
abbrev TabL : Type := List (PySem.W.Frag → Addr) × List (List Str)
abbrev AlE : Type := He.AlD × List (Option (List (Option (Str × Int))))
def obsW (ex : PySem.W.Frag → Bool) (fn : List DefA) (ts : List He.Tab) (K : PySem.W.Frag) : AlE := (obsE ex fn K, ts.map fun t => He.dicW K (t.1 K))
def valW (fn : List DefA) (ts : List He.Tab) (w : World) : AlE := (valE fn, ts.map fun t => some (He.keysIn w.params t.2))
def SaysW (ex : PySem.W.Frag → Bool) (fn : List DefA) (ts : List He.Tab) (w : World) (K : PySem.W.Frag) : Prop := obsW ex fn ts K = valW fn ts w
def obsWG (n : Nat) (ex : PySem.W.Frag → Bool) (fn : List DefA) (ts : List He.Tab) (g : Addr → Option Obj) : AlE := obsW ex fn ts (frG g (asA g n))
def hookW (n : Nat) (ex : PySem.W.Frag → Bool) (fn : List DefA) (ts : List He.Tab) : PySem.W.Hook where
  α := AlE
  obs := fun s => obsWG n ex fn ts s.heap.get?
  val := fun w => valW fn ts w
  says := fun w h => ∃ K : PySem.W.Frag, K.In h ∧ SaysW ex fn ts w K
  of := fun _ _ e => ⟨_, frG_in, e⟩
  keeps := fun _ _ _ ⟨K, hK, c⟩ k => ⟨K, PySem.W.Frag.In.keeps hK k, c⟩
theorem obsWG_eq {n : Nat} {ex : PySem.W.Frag → Bool} {fn : List DefA} {ts : List He.Tab} {g : Addr → Option Obj} {s : Shared} (h : ∀ a, g a = s.heap.get? a) : obsWG n ex fn ts g = (hookW n ex fn ts).obs s := by
  have e : g = s.heap.get? := funext h
  rw [e] <;> rfl
section
variable {ex : PySem.W.Frag → Bool} {fn : List DefA} {ts : List He.Tab} {K : PySem.W.Frag} {w : World}
theorem SaysW.e (c : SaysW ex fn ts w K) : SaysE ex fn K := congrArg (fun z : AlE => z.1) c
theorem SaysW.keys (c : SaysW ex fn ts w K) (i : Nat) {t : He.Tab} (h : ts[i]? = some t := by rfl) : He.dicW K (t.1 K) = some (He.keysIn w.params t.2) := by
  have e : ts.map (fun t => He.dicW K (t.1 K)) = ts.map fun t => some (He.keysIn w.params t.2) := congrArg (fun z : AlE => z.2) c
  have e2 : (ts.map fun t => He.dicW K (t.1 K))[i]? = (ts.map fun t => some (He.keysIn w.params t.2))[i]? := by rw [e]
  rw [List.getElem?_map, List.getElem?_map, h] at e2
  exact Option.some.inj e2
end
/-- a table, its keys known: an item under a key, nothing under another one -/
structure TabF (K : PySem.W.Frag) (w : World) (a : Addr) (ks : List Str) : Prop where
  d : ∃ es n, KDict K w a es n
  no : ∀ z, z ∉ ks → PySem.W.nsIn K a z = some none
theorem no_key {P : Params} {z : Str} : ∀ {l : List DictEntry} {ks : List Str}, l.map He.keyOf = He.keysIn P ks → z ∉ ks → l.find? (·.key.isStr z) = none ∧ l.any (·.refKey) = false
  | [], _, _, _ => ⟨rfl, rfl⟩
  | e :: r, [], h, _ => by cases h
  | e :: r, k :: ks, h, hz => by
    have h1 : He.keyOf e :: r.map He.keyOf = some (k, PyData.keyHash P k) :: He.keysIn P ks := h
    injection h1 with h2 h3
    obtain ⟨f1, f2⟩ := no_key h3 (fun m => hz (List.mem_cons_of_mem _ m))
    obtain ⟨ek, ev, eh⟩ := e
    unfold He.keyOf at h2
    split at h2
    · rename_i x t q
      dsimp only at q
      have h5 := (Prod.mk.inj (Option.some.inj h2)).1
      have nz : ¬ (x = z) := fun y => hz (by rw [← y, h5]; exact List.mem_cons_self)
      subst q
      have e1 : (Value.str x t).isStr z = false := beq_eq_false_iff_ne.mpr nz
      refine ⟨?_, ?_⟩
      · rw [List.find?_cons]
        show (match (Value.str x t).isStr z with | true => some _ | false => List.find? _ r) = none
        rw [e1]
        exact f1
      · rw [List.any_cons]
        show (false || _) = false
        rw [f2] <;> rfl
    · cases h2
theorem tab_ok {K : PySem.W.Frag} {w : World} {a : Addr} {ks : List Str} (h : He.dicW K a = some (He.keysIn w.params ks)) : TabF K w a ks := by
  refine ⟨He.dicW_ok h, fun z hz => ?_⟩
  obtain ⟨es, n, hd⟩ := He.dicW_ok h
  have hl := hd.1
  unfold He.dicW at h
  rw [hl] at h
  have h2 : (match decide (("dict" : String) = "dict") && ((#[] : Array (Option Value)).isEmpty && !(a == sysModules)) with
    | true => some (es.toList.map He.keyOf)
    | false => none) = some (He.keysIn w.params ks) := h
  split at h2
  · obtain ⟨f1, f2⟩ := no_key (Option.some.inj h2) hz
    unfold PySem.W.nsIn
    rw [hl]
    dsimp only
    rw [f1]
    dsimp only
    rw [f2]
    rfl
  · cases h2
/-- where the table's item under a key stands -/
def pa (K : PySem.W.Frag) (x k : Str) : Addr := match PySem.W.nsIn K (ga K x) k with
  | some (some (.ref a)) => a
  | _ => 0
def keyB (K : PySem.W.Frag) (x k : Str) : Bool := eqO (PySem.W.nsIn K (ga K x) k) (some (some (.ref (pa K x k))))
/-- a written tuple at an address -/
def tupAB (K : PySem.W.Frag) (a : Addr) (vs : List He.Dv) : Bool := match K.lookup a with
  | some ⟨.type c, _, .seq its _, _⟩ => decide (c = "tuple") && (decide (its.size ≤ sizeLine) && He.relAll (vs.map (He.Dv.v K)) its.toList)
  | _ => false
theorem tupA_ok {K : PySem.W.Frag} {a : Addr} {vs : List He.Dv} (h : tupAB K a vs = true) (H : Hp) : SqT K H a (vs.map (He.Dv.v K)) := by
  unfold tupAB at h
  split at h
  · rename_i c dd its n sl e
    obtain ⟨h1, h2⟩ := ba h
    obtain ⟨h3, h4⟩ := ba h2
    exact .inr ⟨_, its, n, e, congrArg Value.type (of_decide_eq_true h1), rfl, of_decide_eq_true h3, He.relAll_ok h4⟩
  · cases h
/-- a def with keyword-only parameters alone behind the positional ones -/
structure GOkN (P : Program) (w : World) (K : PySem.W.Frag) (mg : Str → Option Value) (base : Heap) (CX : CXT) (k : Nat) (x : Str) (ps : List Str) (n : Nat) (ks : List Str) (gV : List V → List V → List V) (sp : Sp) : Prop where
  g : mg x = some (.ref (ga K x))
  ex : ∃ (fd : FuncData) (g : List Value → List Value → List Value), PySem.W.keepIn K (.ref (ga K x)) = true ∧ KBn K fd ps n ks g gV ∧ FnOk P w K mg base CX k (ga K x) fd ps sp
theorem pe_gN {X : Cx} {CX : CXT} {k n : Nat} {x : Str} {ps ks : List Str} {gV : List V → List V → List V} {sp : Sp} {E : XK} {e : Expr} {es : List Expr} {kws : List Keyword} {p pos : Pos} {t tk : TA} (G : GOkN X.prog X.w X.K X.mg X.base CX k x ps n ks gV sp) (hr : Room k X.A) (hx : Passes CX X E) (ha : PA X (e :: es) t) (hkw : PK X kws tk) (hg : Gl X x := by rfl)
    (hall : (backToKw pos (keywordEach kws X.env)).all (·.1.isSome) = true := by rfl) (hks : (backToKw pos (keywordEach kws X.env)).filterMap (·.1) = ks := by rfl)
    (hdb : (x == ("__debug__" : Str)) = false := by decide) (he : starEach (e :: es) X.env = (false, eval e X.env) :: starEach es X.env := by rfl)
    (hpl : ((backTo pos (starEach (e :: es) X.env)).any (·.1) || (backToKw pos (keywordEach kws X.env)).any (·.1.isNone)) = false := by rfl) :
    PE X (.Call (.Name x p) (e :: es) kws pos) (tCallN n ks.length sp gV E t tk) := by
  obtain ⟨fd, g, h1, h2, h3⟩ := G.ex
  exact pe_callN h3 hr hg G.g h1 h2 hx ha hkw hall hks hdb he hpl
/-- the world's answer to one row, told -/
def rowSet (p : Params) (b : Bool) : Params := { p with followText := fun s => if s == "special-get-raises" then b else p.followText s }
theorem row_eq (p : Params) : p = rowSet p (p.followText "special-get-raises") := by
  have e : p.followText = fun s => if s == "special-get-raises" then p.followText "special-get-raises" else p.followText s := funext fun s => by
    by_cases h : s = "special-get-raises"
    · subst h
      rw [if_pos (beq_self_eq_true _)]
    · rw [if_neg (fun z => h (beq_iff_eq.mp z))]
  unfold rowSet
  rw [← e]
end Hk

end
section
set_option Elab.async false
set_option linter.all false
set_option maxRecDepth 100000
set_option maxHeartbeats 4000000
/-! A def with keyword-only parameters called within a try. -/
namespace Hk
open PySem PySem.Spec PyProof.Rows L2
open He (ga)
def tCallNS (n m : Nat) (sp : Sp) (gV : List V → List V → List V) (E : L2.St → XK) (t tk : TA) : TE := fun σ H Q => tCallN n m sp gV (E σ) t tk σ H Q
theorem pe_gNS {X : Cx} {CX : CXT} {k n : Nat} {x : Str} {ps ks : List Str} {gV : List V → List V → List V} {sp : Sp} {E : L2.St → XK} {e : Expr} {es : List Expr} {kws : List Keyword} {p pos : Pos} {t tk : TA} (G : GOkN X.prog X.w X.K X.mg X.base CX k x ps n ks gV sp) (hr : Room k X.A) (hx : ∀ σ, PassesAt CX X σ (E σ)) (ha : PA X (e :: es) t) (hkw : PK X kws tk) (hg : Gl X x := by rfl)
    (hall : (backToKw pos (keywordEach kws X.env)).all (·.1.isSome) = true := by rfl) (hks : (backToKw pos (keywordEach kws X.env)).filterMap (·.1) = ks := by rfl)
    (hdb : (x == ("__debug__" : Str)) = false := by decide) (he : starEach (e :: es) X.env = (false, eval e X.env) :: starEach es X.env := by rfl)
    (hpl : ((backTo pos (starEach (e :: es) X.env)).any (·.1) || (backToKw pos (keywordEach kws X.env)).any (·.1.isNone)) = false := by rfl) :
    PE X (.Call (.Name x p) (e :: es) kws pos) (tCallNS n ks.length sp gV E t tk) := by
  obtain ⟨fd, g, kp, hb, F⟩ := G.ex
  subst hks
  refine ⟨fun pins s σ H Q I h => wpAny_Call_Name_kw (ld_glob I hg G.g ?_ hdb)⟩
  refine PySem.W.callWith_KW (h₀ := X.base) I.ok.mod.kin kp hall (thn (ha.run pos pins s σ H _ I h) fun us s1 h1 => ?_) hpl he
  obtain ⟨vs, H1, I1, r, q⟩ := h1
  refine thn (hkw.run pos pins s1 σ H1 _ I1 q) fun ws s2 h2 => ?_
  obtain ⟨zs, H2, I2, rz, l1, l2, q2⟩ := h2
  refine ⟨I2.kIn, wpAny_call (codeAny_mono (F.run X.A X.stack s2 H2 ⟨us, _⟩ (g us ws) (gV vs zs) Q (E σ) hr I2.env0 (hb.to s2 us ws I2.kIn (r.length.symm.trans l1) (rz.length.symm.trans l2)) (hb.rel r rz) q2) fun z s' hq => ?_)⟩
  match z, hq with
  | .error e, hq => exact hx σ pins H2 s2 e s' I2 hq
  | .ok (.ret u), hq => exact I2.after hq
  | .ok .next, hq => exact hq.elim
  | .ok .brk, hq => exact hq.elim
  | .ok .cont, hq => exact hq.elim
end Hk

end
section
set_option Elab.async false
set_option linter.all false
set_option maxRecDepth 100000
set_option maxHeartbeats 4000000
/-! An own error whose __init__ takes arguments, raised where nothing is handled. -/
namespace Hk
open PySem PySem.Spec PyProof.Rows L2
open He (ga)
section
variable {X : Cx} {CX : CXT} {k : Nat} {x : Str} {ps : List Str} {sp : Sp} {p pos : Pos} {e : Expr} {es : List Expr} {ta : TA}
/-- what C(e, ..) asks, C's __init__ keeping sp -/
def tOwnErr (C : Addr) (sp : Sp) (ta : TA) : L2.St → Hp → XK → Prop := fun σ H Q => ta σ H fun vs H1 => vs.length ≤ 1000 ∧ ∀ a, H1 a = none → sp (.ref a :: vs) (upd H1 a (exo a C none)) (fun v H2 => v = .non ∧ ∃ (d : Addr) (fs : List (Str × V)), H2 a = some (exo a C (some d)) ∧ H2 d = some (exd d fs) ∧ H1 d = none ∧ Q (.ref C) (some d) (upd (del H2 a) d (.xd fs))) (fun _ _ _ => False)
theorem pmkN_x {K : PySem.W.Frag} (T : OexC K (ga K x)) (Y : XIn K x) (G : AOk X.prog X.w K X.mg X.base CX k (mt K x "__init__") ps sp) (hr : Room (k + 1) X.A) (hx : Passes CX X (fun _ _ _ => False)) (hm : X.mg x = some (.ref (ga K x))) (ha : PA X (e :: es) ta) (hK : X.K = K := by rfl) (hg : Gl X x := by rfl)
    (hdb : (x == ("__debug__" : Str)) = false := by decide) (he : starEach (e :: es) X.env = (false, eval e X.env) :: starEach es X.env := by rfl) (hpl : (backTo pos (starEach es X.env)).any (·.1) = false := by rfl) :
    L2N.PMk X (.Call (.Name x p) (e :: es) [] pos) (tOwnErr (ga K x) sp ta) := by
  subst hK
  obtain ⟨fd, hb, F1⟩ := G.ex
  intro pins s0 σ H Q I0 h
  obtain ⟨nm, q, N, bs, bm, sn, sub, ab, col, dd, k0, k1, k2, k3, k5, hC, hbm⟩ := T.cls
  refine wpAny_Call_Name_kw (ld_glob I0 hg hm (PySem.W.callWith_K (h₀ := X.base) I0.ok.mod.kin T.kC (thn (ha.run pos pins s0 σ H _ I0 h) fun us s h1 => ?_) he hpl) hdb)
  obtain ⟨vs, H1, I, rv1, hz, hall⟩ := h1
  refine ⟨I.kIn, ?_⟩
  obtain ⟨g0, gs, dr, tk, os⟩ := s
  have z1 : g0.objs.size ≤ g0.objs.size + 1 := Nat.le_succ _
  have hq := hall (g0.objs.size + 1) (I.hok.fresh z1)
  have kk : ∀ b o, g0.get? b = some o → ((g0.push (PySem.W.kdv_tup us)).push (PySem.HandSPX.excO (ga X.K x) g0.objs.size)).get? b = some o :=
    fun b o e => Heap.get?_push_of_some _ (Heap.get?_push_of_some _ e)
  have I2 : Inv X pins σ (upd H1 (g0.objs.size + 1) (exo (g0.objs.size + 1) (ga X.K x) none)) ⟨(g0.push (PySem.W.kdv_tup us)).push (PySem.HandSPX.excO (ga X.K x) g0.objs.size), gs, dr, tk, os⟩ :=
    Inv.laid (t' := tk) I kk z1 (exo_ok (t1 := g0.objs.size) (by heap_get))
  have r2 : Vals (V.ref (g0.objs.size + 1) :: vs) (Value.ref (g0.objs.size + 1) :: us) := .cons rfl rv1
  have hl : (Value.ref (g0.objs.size + 1) :: us ++ []).length = ps.length := by
    rw [List.append_nil, ← r2.length]
    exact F1.len _ _ _ _ hq
  have b2 := hb _ (Value.ref (g0.objs.size + 1) :: us) I2.kIn hl
  rw [List.append_nil] at b2
  have hus : us.length ≤ sizeLine := by
    rw [← rv1.length, sizeLine_eq]
    omega
  show wpAny _ _ (call (.ref (ga X.K x)) us) _ _ _
  have run1 := F1.run _ X.stack _ _ ⟨Value.ref (g0.objs.size + 1) :: us, []⟩ (Value.ref (g0.objs.size + 1) :: us) _ _ (fun _ _ _ => False) (hr.make (ga X.K x) us []) (I2.env0.make (ga X.K x) us []) b2 r2 hq
  refine wpAny_call (PySem.HandSPX.call_own F.excBase_ValueError (fun Z => PySem.HandSPX.refsVE_contains Z bm hbm) (I.kIn _ _ hC) (PySem.W.looks_findIn I.kIn Y.fi) (fun self => PySem.W.bind_fn I.kIn self Y.ty) hus (codeAny_mono run1 (fun r s' hq' => ?_)))
  match r, hq' with
  | .error er, hq' => exact hx pins σ _ _ er s' I2 hq'
  | .ok .next, hq' => exact hq'.elim
  | .ok .brk, hq' => exact hq'.elim
  | .ok .cont, hq' => exact hq'.elim
  | .ok (.ret u), hq' =>
    obtain ⟨v, H2, o2, b2', un2, hk2, rv, ev, d, fs, ea, ed, hd1, q2⟩ := hq'
    obtain rfl := ev
    obtain ⟨h2, gs2, dr2, tk2, os2⟩ := s'
    obtain ⟨u0, G2, J, kG, ge, hoe, na⟩ := mk_end0 (d2 := dr2) (t2 := tk2) I z1 kk un2 hk2 o2 b2' ea ed hd1
    exact ⟨rv, g0.objs.size + 1, _, _, ⟨G2, gs2, dr2, tk2, os2⟩, _, .ref (ga X.K x), some d, rfl, J, kG, ge, hoe, ⟨rfl, rfl, fun vs hv => by cases hv; rfl⟩, rfl, rfl, na, rfl, b2', raises_own T.exC T.tyC, q2⟩
end
theorem int_ok {K : PySem.W.Frag} {mg : Str → Option Value} {x : Str} {i : Int} (N : NsAll K mg) (c : (He.Fa.int x i).ok K = true) : ∃ t, mg x = some (.int i t) := by
  unfold He.Fa.ok at c
  dsimp only at c
  split at c
  · rename_i j t e
    exact ⟨t, (of_decide_eq_true c) ▸ N x _ e⟩
  · cases c
theorem str_ok {K : PySem.W.Frag} {mg : Str → Option Value} {x z : Str} (N : NsAll K mg) (c : (He.Fa.str x z).ok K = true) : ∃ t, mg x = some (.str z t) := by
  unfold He.Fa.ok at c
  dsimp only at c
  split at c
  · rename_i j t e
    exact ⟨t, (of_decide_eq_true c) ▸ N x _ e⟩
  · cases c
end Hk

end
section
set_option Elab.async false
set_option linter.all false
set_option maxRecDepth 100000
set_option maxHeartbeats 4000000
/-! sorted(xs, key=f): f an own def, the keys compared by an order. -/
namespace SrtK
open PySem PyProof.Rows Srt SrtO
section
variable {prog : Program} {w : World} {A : Around} {E : Value → Shared → Prop} {s : Shared}
theorem end_ord {a kS : Addr} {vs ks : List Value} {e e1 : Nat} {ltk : Value → Value → Bool} {P : PySem.Fin → Shared → Prop} (O : Swo ltk)
    (hk : s.heap.get? kS = some (seqObj "list" ks.toArray e)) (ha : s.heap.get? a = some (seqObj "list" #[] e1)) (hka : kS ≠ a) (hl : ks.length = vs.length) (hz : vs.length ≤ sizeLine)
    (hS : 2 ≤ vs.length → ∃ κ, (∀ (Q : SortKind → Shared → Prop) (E : Value → Shared → Prop), Q κ s → wpAny (model prog w) A (keyKind' ks.toArray) Q E s) ∧ Cmp prog w A s κ (fun p => p.1 ∈ ks) (lt2 ltk))
    (h : ∀ ps : List Keyed, Srtd (lt2 ltk) ps → Stb (lt2 ltk) ps (ks.zip vs) → P (.done (.ret .none)) { s with heap := (s.heap.update kS (Obj.mapSeq fun _ => (#[] : Array Value))).update a (Obj.mapSeq fun _ => (ps.map (·.2)).toArray) }) :
    wpAny (model prog w) A (ksk_end a false vs.toArray e1 (.ref kS) ks.toArray) P E s := by
  have ezip : (ks.toArray.zip vs.toArray).toList = ks.zip vs := by rw [ksk_zip]
  have lzip : (ks.zip vs).length = vs.length := by rw [List.length_zip, hl, Nat.min_self]
  have fin : ∀ st' : SortSt, Srtd (lt2 ltk) (arrOf st').toList → Stb (lt2 ltk) (arrOf st').toList (ks.zip vs) → failedOf st' = none → wpAny (model prog w) A (ksk_tail a false e1 (.ref kS) st') P E s := by
    intro st' h1 h2 hf
    have s1 := Heap.SameBut.update s.heap kS (Obj.mapSeq fun _ => (#[] : Array Value))
    have ha1 : (s.heap.update kS (Obj.mapSeq fun _ => (#[] : Array Value))).get? a = some (seqObj "list" #[] e1) := (s1.2 a hka.symm).trans ha
    have hlen : (arrOf st').size = vs.length := by
      rw [← Array.length_toList, h2.len, lzip]
    have e3 : ((arrOf st').toList.map (·.2)).toArray = (arrOf st').map (·.2) := by
      apply Array.ext'
      rw [Array.toList_map]
    unfold ksk_tail
    try dsimp only
    refine wpAny_bind (listUpdate_at hk rfl ?_ (by rw [List.size_toArray, hl]; exact hz) (Nat.zero_le _))
    refine wpAny_bind (wpAny_letGo ?_)
    refine wpAny_bind (seqEpoch_at ha1 rfl ?_)
    refine wpAny_bind (listUpdate_at ha1 rfl ?_ (Nat.zero_le _) (by
      show ((arrOf st').map (·.2)).size ≤ _
      rw [Array.size_map, hlen]
      omega))
    rw [hf]
    simp only [bne_self_eq_false, Bool.false_eq_true, if_false]
    have h' := h _ h1 h2
    rw [e3] at h'
    exact wpAny_pure h'
  unfold ksk_end
  try dsimp only
  simp only [Bool.false_eq_true, if_false]
  by_cases h2 : vs.toArray.size < 2
  · rw [if_pos h2, if_pos h2]
    refine wpAny_bind (wpAny_pure ?_)
    rw [StateT.run_pure]
    refine wpAny_bind (wpAny_pure ?_)
    try dsimp only
    refine fin (SortSt.mk' general' (ks.toArray.zip vs.toArray) #[] 7 none) ?_ (by show Stb _ (ks.toArray.zip vs.toArray).toList _; rw [ezip]; exact Stb.refl _) rfl
    show Srtd (lt2 ltk) (ks.toArray.zip vs.toArray).toList
    rw [ezip]
    rw [List.size_toArray, ← lzip] at h2
    match ks.zip vs, h2 with
    | [], _ => exact List.Pairwise.nil
    | [v], _ => exact List.pairwise_singleton _ _
    | _ :: _ :: l, h => exact absurd h (by rw [List.length_cons, List.length_cons]; omega)
  · rw [if_neg h2, if_neg h2]
    rw [List.size_toArray] at h2
    obtain ⟨κ, hkind, hT⟩ := hS (by omega)
    refine wpAny_bind (hkind _ _ ?_)
    have hall : AllL (fun p : Keyed => p.1 ∈ ks) (ks.toArray.zip vs.toArray).toList := fun p hm => by
      rw [ezip] at hm
      obtain ⟨x, y⟩ := p
      exact (List.of_mem_zip hm).1
    refine wpAny_bind (wpAny_mono (wpS_sortO (st0 := SortSt.mk' κ (ks.toArray.zip vs.toArray) #[] 7 none)
      (Q := fun _ st' => Srtd (lt2 ltk) (arrOf st').toList ∧ Stb (lt2 ltk) (arrOf st').toList (ks.toArray.zip vs.toArray).toList ∧ failedOf st' = none) (swo2 O) hT rfl hall rfl rfl fun st' a1 a2 a3 => ⟨a1, a2, a3⟩) ?_ fun _ _ e => e)
    rintro ⟨⟨⟩, st'⟩ s' ⟨rfl, hp1, hp2, hf⟩
    try dsimp only
    rw [ezip] at hp2
    exact fin st' hp1 hp2 hf
end
end SrtK

namespace L2
open PySem PySem.Spec PyProof.Rows SrtO
/-- a value that a word of the layer stands for -/
def bv : Value → V
  | .none => .non
  | .bool b => .bl b
  | .int i _ => .int i
  | .str x _ => .str x
  | .bytes b _ => .byt b
  | .float b _ => .flt b
  | .ref a => .ref a
  | .type n => .ty n
  | _ => .non
theorem bv_of : ∀ {v : V} {u : Value}, RelV v u → bv u = v := by
  intro v u r
  cases v with
  | non => cases (show u = Value.none from r); rfl
  | bl b => cases (show u = Value.bool b from r); rfl
  | int i =>
    obtain ⟨t, e⟩ := (show ∃ t, u = Value.int i t from r)
    subst e
    rfl
  | str x =>
    obtain ⟨t, e⟩ := (show ∃ t, u = Value.str x t from r)
    subst e
    rfl
  | byt b =>
    obtain ⟨t, e⟩ := (show ∃ t, u = Value.bytes b t from r)
    subst e
    rfl
  | flt b =>
    obtain ⟨t, e⟩ := (show ∃ t, u = Value.float b t from r)
    subst e
    rfl
  | ref a => cases (show u = Value.ref a from r); rfl
  | ty n => cases (show u = Value.type n from r); rfl
theorem bvs_of : ∀ {vs : List V} {us : List Value}, Vals vs us → us.map bv = vs
  | _, _, .nil => rfl
  | _, _, .cons r t => by
    rw [List.map_cons, bv_of r, bvs_of t]
theorem vals_rel : ∀ {vs : List V} {us : List Value}, Vals vs us → ∀ u ∈ us, RelV (bv u) u
  | _, _, .nil, u, h => by cases h
  | _, _, .cons r t, u, h => by
    rcases List.mem_cons.mp h with e | h
    · subst e
      rw [bv_of r]
      exact r
    · exact vals_rel t u h
theorem vals_of : ∀ {us : List Value}, (∀ u ∈ us, RelV (bv u) u) → Vals (us.map bv) us
  | [], _ => .nil
  | u :: us, h => .cons (h u List.mem_cons_self) (vals_of fun v hv => h v (List.mem_cons_of_mem _ hv))
/-- the keys' kind is found, and any two of them compare as lt says -/
def KeysBy (H : Hp) (ks : List V) (lt : V → V → Bool) : Prop := ∀ (prog : Program) (w : World) (A : Around) (s : Shared) (us : List Value), HOk prog w H s.heap → Vals ks us → 2 ≤ ks.length →
  ∃ κ, (∀ (Q : SortKind → Shared → Prop) (E : Value → Shared → Prop), Q κ s → wpAny (model prog w) A (keyKind' us.toArray) Q E s) ∧ Cmp prog w A s κ (fun p => p.1 ∈ us) (lt2 fun u v => lt (bv u) (bv v))
/-- sorted(xs, key=f): sp is what f promises; L the new list, kS that of the keys -/
def rSortKey (K : PySem.W.Frag) (f : Addr) (sp : Sp) : List V → List V → Hp → VK → Prop := fun vs zs H Q => ∃ (a : Addr) (xs : List V), vs = [V.ref a] ∧ zs = [V.ref f] ∧ SqL K H a xs ∧
  ∀ (L kS : Addr) (oL : Obj), H L = none → H kS = none → kS ≠ L → ∃ J : Nat → Hp → Prop, J 0 (upd (upd H L (.frz oL (.lst []))) kS (.lst [])) ∧
    (∀ (i : Nat) (x : V) (H1 : Hp), xs[i]? = some x → J i H1 → sp [x] H1 (fun k H2 => ∃ ks, H2 L = some (.frz oL (.lst [])) ∧ H2 kS = some (.lst ks) ∧ ks.length = i ∧ J (i + 1) (upd H2 kS (.lst (ks ++ [k])))) (fun _ _ _ => False)) ∧
    (∀ H1 : Hp, J xs.length H1 → ∃ ks lt, H1 L = some (.frz oL (.lst [])) ∧ H1 kS = some (.lst ks) ∧ ks.length = xs.length ∧ Swo lt ∧ KeysBy H1 ks lt ∧
      ∀ ps : List (V × V), Srtd (fun p q => lt p.1 q.1) ps → Stb (fun p q => lt p.1 q.1) ps (ks.zip xs) → Q (.ref L) (upd (upd (upd H1 L (.lst [])) kS (.lst [])) L (.lst (ps.map (·.2)))))
section
variable {X : Cx} {CX : CXT} {k : Nat} {f : Addr} {fd : FuncData} {ps : List Str} {sp : Sp}
theorem cr_sortKey (F : FnOk X.prog X.w X.K X.mg X.base CX k f fd ps sp) (hr : Room (k + 2) X.A) (hb : Binds X.K fd ps []) (hx : Passes CX X.nox (fun _ _ _ => False)) : CallRK X (.builtin "sorted") [Str.ofString "key"] (rSortKey X.K f sp) := by
  intro pins s σ H vs zs us ws Q I r rz h
  obtain ⟨a, xs, rfl, rfl, hs, h⟩ := h
  obtain rfl := Vals.ref1 r
  obtain rfl := Vals.ref1 rz
  obtain ⟨its, rv, hl, hz⟩ := I.list hs
  have hz' : its.length ≤ sizeLine := by rw [← rv.length]; exact hz
  have hr2 : Room k X.A.in1.in1 := (show Room (k + 1) X.A.in1 from Room.in1 hr).in1
  refine call_function_entry_kw kind_sorted plain_sorted entry_sorted (ksk_s1 _ _) ?_
  unfold Builtin.«sorted»
  refine wpAny_bind (m := checkCount "sorted" 1 1 _) (wpAny_pure ?_)
  refine wpAny_bind (collect_list hl.isList ?_ hz')
  refine wpAny_bind (wpAny_newList ?_ hz')
  generalize hL0 : (s.heap.push (seqObj "list" #[] 0)).update s.heap.objs.size (Obj.mapSeq (· ++ its.toArray)) = h0
  have hsz : h0.objs.size = s.heap.objs.size + 1 := by
    rw [← hL0, Heap.size_update, size_push']
  have keep0 : ∀ b o, s.heap.get? b = some o → h0.get? b = some o := fun b o q => by
    have hlt : b < s.heap.objs.size := Heap.lt_size q
    rw [← hL0, Heap.get?_update_ne _ _ _ _ (Nat.ne_of_lt hlt)]
    exact Heap.get?_push_of_some _ q
  show wpAny _ _ _ _ _ { s with heap := h0.push (seqObj "list" its.toArray 0) }
  have hoL : (h0.push (seqObj "list" its.toArray 0)).get? h0.objs.size = some (seqObj "list" its.toArray 0) := Heap.get?_push_size _ rfl
  generalize hL : h0.objs.size = L at hsz hoL ⊢
  have keep1 : ∀ b o, s.heap.get? b = some o → b ≠ L ∧ (h0.push (seqObj "list" its.toArray 0)).get? b = some o := fun b o q =>
    ⟨Nat.ne_of_lt (by rw [hsz]; exact Nat.lt_succ_of_lt (Heap.lt_size q)), Heap.get?_push_of_some _ (keep0 b o q)⟩
  generalize hh1 : h0.push (seqObj "list" its.toArray 0) = h1 at hoL keep1 ⊢
  have sz1 : h1.objs.size = s.heap.objs.size + 2 := by rw [← hh1, size_push', hL, hsz]
  refine wpAny_bind (wpAny_holding (wpAny_call_entry_kw slot_list_sort ⟨_, hoL, rfl⟩ entry_list_sort ?_ (ksk_l1 _ _)))
  show wpAny _ _ (Builtin.«list.sort» ⟨[.ref L], [(Str.ofString "key", .ref f)]⟩) _ _ _
  rw [ksk_t1]
  unfold ksk_tree
  refine wpAny_bind (listItems_at hoL rfl ?_)
  refine wpAny_bind (listUpdate_at hoL rfl ?_ (by rw [List.size_toArray]; exact hz') (Nat.zero_le _))
  obtain ⟨e1, ho1⟩ : ∃ e1, (h1.update L (Obj.mapSeq fun _ => (#[] : Array Value))).get? L = some (seqObj "list" #[] e1) := ⟨_, get?_update_seq hoL (fun _ => #[])⟩
  have keep2 : ∀ b o, s.heap.get? b = some o → (h1.update L (Obj.mapSeq fun _ => (#[] : Array Value))).get? b = some o := fun b o q => (Heap.get?_update_ne _ _ _ _ (keep1 b o q).1).trans (keep1 b o q).2
  have sz2 : (h1.update L (Obj.mapSeq fun _ => (#[] : Array Value))).objs.size = s.heap.objs.size + 2 := by rw [Heap.size_update, sz1]
  generalize h1.update L (Obj.mapSeq fun _ => (#[] : Array Value)) = h2 at ho1 keep2 sz2 ⊢
  refine wpAny_bind (seqEpoch_at ho1 rfl ?_)
  refine wpAny_bind (wpAny_newTuple ?_ (by show its.length ≤ _; exact hz'))
  refine wpAny_bind (wpAny_newList ?_ (Nat.zero_le _))
  refine wpAny_holding ?_
  show wpAny _ _ _ _ _ { s with heap := (h2.push (seqObj "tuple" its.toArray 0)).push (seqObj "list" #[] 0) }
  have hkS : ((h2.push (seqObj "tuple" its.toArray 0)).push (seqObj "list" #[] 0)).get? (h2.push (seqObj "tuple" its.toArray 0)).objs.size = some (seqObj "list" #[] 0) := Heap.get?_push_size _ rfl
  have szk : (h2.push (seqObj "tuple" its.toArray 0)).objs.size = s.heap.objs.size + 3 := by rw [size_push', sz2]
  generalize hkk : (h2.push (seqObj "tuple" its.toArray 0)).objs.size = kS at hkS szk ⊢
  have hoL3 : ((h2.push (seqObj "tuple" its.toArray 0)).push (seqObj "list" #[] 0)).get? L = some (seqObj "list" #[] e1) := Heap.get?_push_of_some _ (Heap.get?_push_of_some _ ho1)
  have keep3 : ∀ b o, s.heap.get? b = some o → ((h2.push (seqObj "tuple" its.toArray 0)).push (seqObj "list" #[] 0)).get? b = some o := fun b o q => Heap.get?_push_of_some _ (Heap.get?_push_of_some _ (keep2 b o q))
  generalize (h2.push (seqObj "tuple" its.toArray 0)).push (seqObj "list" #[] 0) = h3 at hkS hoL3 keep3 ⊢
  have hkL : kS ≠ L := by omega
  have nL : H L = none := I.hok.fresh (by omega)
  have nk : H kS = none := I.hok.fresh (by omega)
  obtain ⟨J, j0, jstep, jend⟩ := h L kS (seqObj "list" #[] e1) nL nk hkL
  have ok3 : HOk X.prog X.w H h3 := I.hok.kept keep3
  -- the start
  have I3 : Inv X pins σ H { s with heap := h3, toks := s.toks } := I.kept keep3
  have frL : HOk X.prog X.w (upd H L (.frz (seqObj "list" #[] e1) (.lst []))) h3 := fun b o e => by
    by_cases hb : b = L
    · subst hb
      rw [upd_same] at e
      cases e
      exact ⟨hoL3, ⟨Nat.zero_le _, [], e1, .nil, hoL3⟩⟩
    · rw [upd_ne hb] at e
      exact (ok3 b o e).stay (fun c v _ q => q) (fun c q => by rw [upd_ne (fun z => by rw [z, nL] at q; cases q)]; exact q) fun c xs q => by rw [upd_ne (fun z => by rw [z, nL] at q; cases q)]; exact q
  have unL : Un X.fs [] H (upd H L (.frz (seqObj "list" #[] e1) (.lst []))) s.heap h3 := Un.laid keep3 (by omega) nL
  have nk2 : (upd H L (.frz (seqObj "list" #[] e1) (.lst []))) kS = none := by rw [upd_ne hkL]; exact nk
  have frK : HOk X.prog X.w (upd (upd H L (.frz (seqObj "list" #[] e1) (.lst []))) kS (.lst [])) h3 := fun b o e => by
    by_cases hb : b = kS
    · subst hb
      rw [upd_same] at e
      cases e
      exact ⟨Nat.zero_le _, [], 0, .nil, hkS⟩
    · rw [upd_ne hb] at e
      exact (frL b o e).stay (fun c v _ q => q) (fun c q => by rw [upd_ne (fun z => by rw [z, nk2] at q; cases q)]; exact q) fun c xs q => by rw [upd_ne (fun z => by rw [z, nk2] at q; cases q)]; exact q
  have unK : Un X.fs [] H (upd (upd H L (.frz (seqObj "list" #[] e1) (.lst []))) kS (.lst [])) s.heap h3 := by
    refine ⟨fun b u q _ _ _ => keep3 b u q, fun b u q _ _ _ => ⟨u.slots, keep3 b u q⟩, fun b u q n _ => ?_, fun b u q _ => ⟨u, keep3 b u q⟩, fun b xs q => ?_, fun b o u q => ?_, fun b ps q => ⟨#[], ?_⟩⟩
    · have := Heap.lt_size q
      rw [upd_ne (Nat.ne_of_lt (by rw [szk]; exact Nat.lt_add_right 3 this)), upd_ne (Nat.ne_of_lt (by rw [hsz]; exact Nat.lt_add_right 1 this))]
      exact n
    · rw [upd_ne (fun z => by rw [z, nk] at q; cases q), upd_ne (fun z => by rw [z, nL] at q; cases q)]
      exact q
    · rw [upd_ne (fun z => by rw [z, nk] at q; cases q), upd_ne (fun z => by rw [z, nL] at q; cases q)]
      exact q
    · rw [upd_ne (fun z => by rw [z, nk] at q; cases q), upd_ne (fun z => by rw [z, nL] at q; cases q)]
      simpa using q
  have I4 : Inv X pins σ (upd (upd H L (.frz (seqObj "list" #[] e1) (.lst []))) kS (.lst [])) { s with heap := h3, toks := s.toks } := I.un unK frK
  have hnL : ∀ o' u', X.H_0 L ≠ some (.frz o' u') := fun o' u' e => by
    have q := I.base.frzs L o' u' e
    rw [nL] at q
    cases q
  -- the keys, one by one
  unfold ksk_rest
  refine wpAny_bind (wpAny_rule ?_)
  rw [← Array.forIn_toList, List.toList_toArray]
  refine wpAny_bind (ksk_fold (fun i s' => ∃ H', Inv X pins σ H' s' ∧ J i H' ∧ ∃ ks ks', H' kS = some (.lst ks) ∧ s'.heap.get? kS = some ks' ∧ ks.length = i ∧ H' L = some (.frz (seqObj "list" #[] e1) (.lst []))) its 0 { s with heap := h3 }
    ⟨_, I4, j0, [], _, upd_same, hkS, rfl, by rw [upd_ne hkL.symm, upd_same]⟩ ?step ?done)
  case step =>
    rintro j u s' hu ⟨H', I', hJ, ks, _, hks, _, hlen, hLz⟩
    rw [Nat.zero_add] at hJ
    rw [Nat.zero_add] at hlen
    rw [Nat.zero_add]
    have hj : j < its.length := (List.getElem?_eq_some_iff.mp hu).1
    have hj' : j < xs.length := by rw [rv.length]; exact hj
    obtain ⟨u', hu', ru⟩ := rv.get (List.getElem?_eq_getElem hj')
    rw [hu] at hu'
    cases hu'
    have hc := jstep j _ H' (List.getElem?_eq_getElem hj') hJ
    refine wpAny_bind (wpAny_attempt (wpAny_mono (OwnX.run_call (X := X.nox) (us := [u]) F hr2 (Env0.in1 (Env0.in1 I'.env0)) hb hx (I'.wish _) (.cons ru .nil) hc) (fun v s'' he => ?_) fun _ _ hF => hF.elim))
    obtain ⟨kv, H2, I2, rk, ks2, hL2, hk2, hl2, hJ2⟩ := he
    have I2 := I2.unwish
    try dsimp only
    obtain ⟨zk, itk, nk', rvk, hok⟩ := I2.hok kS _ hk2
    have hsize : itk.toArray.size = j := by rw [List.size_toArray, ← rvk.length, hl2]
    refine wpAny_bind (listUpdate_at hok rfl ?_ (by rw [hsize]; omega) (by rw [Array.size_push, hsize]; omega))
    obtain ⟨c2, hc2⟩ : ∃ c2, (s''.heap.update kS (Obj.mapSeq (·.push v))).get? kS = some (seqObj "list" (itk.toArray.push v) c2) := ⟨_, get?_update_seq hok (·.push v)⟩
    have s1 := Heap.SameBut.update s''.heap kS (Obj.mapSeq (·.push v))
    have hc3 : (s''.heap.update kS (Obj.mapSeq (·.push v))).get? kS = some (seqObj "list" (itk ++ [v]).toArray c2) := by
      rw [hc2]
      congr 2
      apply Array.ext'
      simp
    have I5 : Inv X pins σ (upd H2 kS (.lst (ks2 ++ [kv]))) { s'' with heap := s''.heap.update kS (Obj.mapSeq (·.push v)), toks := s''.toks } := I2.write (x := kS) (e := kS) (by rw [hk2]; trivial) (.inl rfl) (fun b o hb q => (s1.2 b hb).trans q) ⟨_, hc2⟩
      ⟨by rw [List.length_append, hl2]; show j + 1 ≤ _; omega, itk ++ [v], c2, rvk.append (.cons rk .nil), hc3⟩
    exact wpAny_pure ⟨rfl, _, I5, hJ2, _, _, upd_same, hc2, by rw [List.length_append, hl2] <;> rfl, by rw [upd_ne hkL.symm]; exact hL2⟩
  case done =>
    rintro s' ⟨H1, I1, hJ, _, _, _, _, _, _⟩
    rw [Nat.zero_add, ← rv.length] at hJ
    obtain ⟨ks, lt, hL1, hk1, hlk, O, kb, q⟩ := jend H1 hJ
    obtain ⟨zk, itk, nk', rvk, hok⟩ := I1.hok kS _ hk1
    refine wpAny_bind (listItems_at hok rfl ?_)
    obtain ⟨hoL5, _⟩ := I1.hok L _ hL1
    have hlk2 : itk.length = its.length := by rw [← rvk.length, ← rv.length, hlk]
    have O' : Swo fun u v => lt (bv u) (bv v) := ⟨fun x y => O.asym (bv x) (bv y), fun x y z => O.tr (bv x) (bv y) (bv z)⟩
    refine SrtK.end_ord (ks := itk) (e1 := e1) O' hok hoL5 hkL hlk2 hz' (fun h2 => kb X.prog X.w X.A.in1.in1 s' itk I1.hok rvk (by rw [hlk, rv.length]; exact h2)) fun ps' hs' hb' => ⟨_, rfl, ?_⟩
    refine wpAny_pure ⟨_, rfl, ?_⟩
    have hps : ∀ p ∈ ps', p.2 ∈ its := fun p hp => (List.of_mem_zip (show (p.1, p.2) ∈ itk.zip its from hb'.perm.mem_iff.mp hp)).2
    have hlen : (ps'.map (·.2)).length = its.length := by rw [List.length_map, hb'.len, List.length_zip, hlk2, Nat.min_self]
    -- the lists turned
    have J1 : Inv X pins σ (upd H1 L (.lst [])) s' := I1.unlock hL1 hnL
    have s1 := Heap.SameBut.update s'.heap kS (Obj.mapSeq fun _ => (#[] : Array Value))
    obtain ⟨c2, hc2⟩ : ∃ c2, (s'.heap.update kS (Obj.mapSeq fun _ => (#[] : Array Value))).get? kS = some (seqObj "list" #[] c2) := ⟨_, get?_update_seq hok fun _ => (#[] : Array Value)⟩
    have J2 : Inv X pins σ (upd (upd H1 L (.lst [])) kS (.lst [])) { s' with heap := s'.heap.update kS (Obj.mapSeq fun _ => (#[] : Array Value)), toks := s'.toks } := J1.write (x := kS) (e := kS) (by rw [upd_ne hkL, hk1]; trivial) (.inl rfl) (fun b o hb q => (s1.2 b hb).trans q) ⟨_, hc2⟩ ⟨Nat.zero_le _, [], c2, .nil, hc2⟩
    have hoL6 : (s'.heap.update kS (Obj.mapSeq fun _ => (#[] : Array Value))).get? L = some (seqObj "list" #[] e1) := (s1.2 L hkL.symm).trans hoL5
    have s2 := Heap.SameBut.update (s'.heap.update kS (Obj.mapSeq fun _ => (#[] : Array Value))) L (Obj.mapSeq fun _ => (ps'.map (·.2)).toArray)
    obtain ⟨c3, hc3⟩ : ∃ c3, ((s'.heap.update kS (Obj.mapSeq fun _ => (#[] : Array Value))).update L (Obj.mapSeq fun _ => (ps'.map (·.2)).toArray)).get? L = some (seqObj "list" (ps'.map (·.2)).toArray c3) := ⟨_, get?_update_seq hoL6 fun _ => (ps'.map (·.2)).toArray⟩
    have rel : ∀ u ∈ ps'.map (·.2), RelV (bv u) u := fun u hu => by
      obtain ⟨p, hp, rfl⟩ := List.mem_map.mp hu
      exact vals_rel rv _ (hps p hp)
    have emap : (ps'.map (·.2)).map bv = ((ps'.map fun p => (bv p.1, bv p.2)).map (·.2)) := by
      rw [List.map_map, List.map_map]
      rfl
    have J3 : Inv X pins σ (upd (upd (upd H1 L (.lst [])) kS (.lst [])) L (.lst ((ps'.map (·.2)).map bv))) { s' with heap := (s'.heap.update kS (Obj.mapSeq fun _ => (#[] : Array Value))).update L (Obj.mapSeq fun _ => (ps'.map (·.2)).toArray), toks := s'.toks } :=
      J2.write (x := L) (e := L) (by rw [upd_ne hkL.symm, upd_same]; trivial) (.inl rfl) (fun b o hb q => (s2.2 b hb).trans q) ⟨_, hc3⟩ ⟨by rw [List.length_map, hlen]; exact hz', ps'.map (·.2), c3, vals_of rel, hc3⟩
    rw [emap] at J3
    refine ⟨.ref L, _, J3, rfl, q _ (SrtO.srtd_map (f := fun p : Value × Value => (bv p.1, bv p.2)) hs') ?_⟩
    have hst := Stb.map (lt := fun p q : V × V => lt p.1 q.1) ⟨fun x y => O.asym x.1 y.1, fun x y z => O.tr x.1 y.1 z.1⟩ (fun p : Value × Value => (bv p.1, bv p.2)) hb'
    have ez : (itk.zip its).map (fun p : Value × Value => (bv p.1, bv p.2)) = ks.zip xs := by
      rw [← bvs_of rvk, ← bvs_of rv, List.zip_map]
      rfl
    rw [ez] at hst
    exact hst
end
end L2

/-! ### keys that are tuples of numbers -/
namespace L2
open PySem PySem.Spec PyProof.Rows SrtO
def lexI : List Int → List Int → Bool
  | [], [] => false
  | [], _ :: _ => true
  | _ :: _, [] => false
  | a :: as, b :: bs => if a = b then lexI as bs else decide (a < b)
theorem lexI_asym : ∀ x y : List Int, lexI x y = true → lexI y x = false
  | [], [], h => by cases h
  | [], _ :: _, _ => rfl
  | _ :: _, [], h => by cases h
  | a :: as, b :: bs, h => by
    unfold lexI at h ⊢
    split at h
    · rename_i e
      rw [if_pos e.symm]
      exact lexI_asym as bs h
    · rename_i e
      have := of_decide_eq_true h
      rw [if_neg (by omega)]
      exact decide_eq_false (by omega)
theorem lexI_tr : ∀ x y z : List Int, lexI y x = false → lexI z y = false → lexI z x = false
  | [], _, [], _, _ => rfl
  | [], _, _ :: _, _, _ => rfl
  | _ :: _, [], _, h, _ => by cases h
  | _ :: _, _ :: _, [], _, h => by cases h
  | a :: as, b :: bs, c :: cs, h1, h2 => by
    unfold lexI at h1 h2 ⊢
    split at h1
    · rename_i e
      subst e
      split at h2
      · rename_i e
        subst e
        rw [if_pos rfl]
        exact lexI_tr as bs cs h1 h2
      · rename_i e
        rw [if_neg e]
        exact h2
    · rename_i e
      have q1 := of_decide_eq_false h1
      split at h2
      · rename_i e2
        subst e2
        rw [if_neg e]
        exact h1
      · rename_i e2
        have q2 := of_decide_eq_false h2
        rw [if_neg (by omega)]
        exact decide_eq_false (by omega)
/-- the numbers of a tuple of numbers -/
def intsV (H : Hp) : V → List Int
  | .ref a => match H a with
    | some (.tup vs) => vs.map fun v => match v with
      | .int i => i
      | _ => 0
    | _ => []
  | .int i => [i]
  | _ => []
theorem intsV_tup {H : Hp} {t : Addr} {ns : List Int} (h : H t = some (.tup (ns.map V.int))) : intsV H (.ref t) = ns := by
  simp only [intsV, h]
  rw [List.map_map]
  exact List.map_id'' (fun _ => rfl) ns
abbrev ltI (H : Hp) (x y : V) : Bool := lexI (intsV H x) (intsV H y)
theorem swo_ltI (H : Hp) : Swo (ltI H) := ⟨fun x y => lexI_asym _ _, fun x y z => lexI_tr _ _ _⟩
section
variable {prog : Program} {w : World} {A : Around} {E : Value → Shared → Prop} {s : Shared}
theorem kat_ints {b fin : Bool} {Q : Bool → Shared → Prop} : ∀ (ns ms : List Int) (ps qs : List Value) (i : Nat), Vals (ns.map V.int) ps → Vals (ms.map V.int) qs → fin = decide (ps.length < qs.length) → Q (lexI ns ms) s → PySem.W.KatLex prog w A b fin Q (ps.zip qs) i s
  | [], [], ps, qs, i, hp, hq, hf, h => by
    cases hp
    cases hq
    have e : fin = false := by rw [hf]; rfl
    subst e
    exact PySem.W.kat_nil h
  | [], m :: ms, ps, qs, i, hp, hq, hf, h => by
    cases hp
    cases hq
    have e : fin = true := by rw [hf]; exact decide_eq_true (Nat.succ_pos _)
    subst e
    exact PySem.W.kat_nil h
  | n :: ns, [], ps, qs, i, hp, hq, hf, h => by
    cases hq
    cases hp
    have e : fin = false := by rw [hf]; exact decide_eq_false (Nat.not_lt_zero _)
    subst e
    exact PySem.W.kat_nil h
  | n :: ns, m :: ms, ps, qs, i, hp, hq, hf, h => by
    cases hp with
    | cons r rp =>
      cases hq with
      | cons r' rq =>
        obtain ⟨t, rfl⟩ := (show ∃ t, _ = Value.int n t from r)
        obtain ⟨u, rfl⟩ := (show ∃ t, _ = Value.int m t from r')
        rw [List.zip_cons_cons]
        refine PySem.W.kat_cons (wpAny_eqBool_int ?_)
        refine PySem.W.kat_go (fun e => PySem.W.kat_yes ?_) (fun e => PySem.W.kat_no ?_)
        · have e1 : n = m := by simpa using e
          subst e1
          refine kat_ints ns ms _ _ (i + 1) rp rq (by rw [hf]; simp only [List.length_cons, Nat.add_lt_add_iff_right]) ?_
          have e2 : lexI (n :: ns) (n :: ms) = lexI ns ms := if_pos rfl
          rw [e2] at h
          exact h
        · have e1 : ¬ n = m := by simpa using e
          have e2 : lexI (n :: ns) (m :: ms) = decide (n < m) := if_neg e1
          rw [e2] at h
          exact oneLt_any_int h
theorem firsts_ints {h : Heap} : ∀ us : List Value, (∀ u ∈ us, ∃ a o xs n i t, u = Value.ref a ∧ h.get? a = some o ∧ o.cls = .type "tuple" ∧ o.data = .seq xs n ∧ xs[0]? = some (Value.int i t)) → ∃ fs : List Value, PySem.W.KatTups h us fs ∧ fs.length = us.length ∧ ∀ f ∈ fs, ∃ i t, f = Value.int i t
  | [], _ => ⟨[], PySem.W.KatTups.nil, rfl, fun f hf => by cases hf⟩
  | u :: us, hu => by
    obtain ⟨a, o, xs, n, i, t, rfl, h1, h2, h3, h4⟩ := hu u List.mem_cons_self
    obtain ⟨fs, k1, k2, k3⟩ := firsts_ints us fun v hv => hu v (List.mem_cons_of_mem _ hv)
    refine ⟨Value.int i t :: fs, PySem.W.KatTups.cons h1 h2 h3 h4 k1, by rw [List.length_cons, List.length_cons, k2], fun f hf => ?_⟩
    rcases List.mem_cons.mp hf with e | hf
    · exact ⟨i, t, e⟩
    · exact k3 f hf
end
/-- keys that are tuples of numbers, not empty -/
theorem keys_tup {H : Hp} {ks : List V} (h : ∀ k ∈ ks, ∃ t ns, k = V.ref t ∧ H t = some (.tup (ns.map V.int)) ∧ ns ≠ []) : KeysBy H ks (ltI H) := by
  intro prog w A s us hok rv h2
  have each : ∀ u ∈ us, ∃ a o its n ns, u = Value.ref a ∧ s.heap.get? a = some o ∧ o.cls = .type "tuple" ∧ o.data = .seq (List.toArray its) n ∧ Vals (ns.map V.int) its ∧ ns ≠ [] ∧ intsV H (bv u) = ns := fun u hu => by
    have hm : bv u ∈ ks := by
      rw [← bvs_of rv]
      exact List.mem_map.mpr ⟨u, hu, rfl⟩
    have r := vals_rel rv u hu
    obtain ⟨t, ns, e, ht, hne⟩ := h _ hm
    rw [e] at r
    cases (show u = Value.ref t from r)
    obtain ⟨_, its, r2, o, ho, hc, n, hd⟩ := hok _ _ ht
    refine ⟨t, o, its, n, ns, rfl, ho, hc, hd, r2, hne, intsV_tup ht⟩
  refine ⟨tuples' true, fun Q E hq => ?_, fun p q hm hm' => ?_⟩
  · obtain ⟨fs, k1, k2, k3⟩ := firsts_ints (h := s.heap) us fun u hu => by
      obtain ⟨a, o, its, n, ns, rfl, ho, hc, hd, rn, hne, _⟩ := each u hu
      cases ns with
      | nil => exact absurd rfl hne
      | cons i ns =>
        cases rn with
        | cons r rr =>
          obtain ⟨t, rfl⟩ := (show ∃ t, _ = Value.int i t from r)
          exact ⟨a, o, _, n, i, t, rfl, ho, hc, hd, rfl⟩
    have hl : us.length = ks.length := rv.length.symm
    refine PySem.W.kat_kind (T := .type "int") k1 (by omega) (fun f hm => ?_) (by rfl) ?_
    · obtain ⟨x, t, rfl⟩ := k3 f hm
      exact PySem.W.Looks.now
    · have e : (Value.type "int" != Value.type "tuple") = true := by first | decide +kernel | rfl | decide
      rw [e]
      exact hq
  · show wpAny (model prog w) A (keyLt' (tuples' true) p.1 q.1) (fun r s' => s' = s ∧ r = lexI (intsV H (bv p.1)) (intsV H (bv q.1))) (fun _ _ => False) s
    obtain ⟨a, o, its, n, ns, e1, ho, hc, hd, rn, _, en⟩ := each _ hm
    obtain ⟨a', o', its', n', ns', e2, ho', hc', hd', rn', _, en'⟩ := each _ hm'
    rw [en, en', e1, e2]
    exact PySem.W.kat_lt ho hd ho' hd' (kat_ints ns ns' _ _ 0 rn rn' (by simp) ⟨rfl, rfl⟩)
end L2

end
section
set_option Elab.async false
set_option linter.all false
set_option maxRecDepth 100000
set_option maxHeartbeats 4000000
/-! Values without addresses; what stands for them in the heap; readings that follow functions. -/
namespace Fu
open PySem PySem.Spec PyProof.Rows L2
open He (ga)

inductive PV where
  | non | bl (b : Bool) | int (i : Int) | str (x : Str) | ty (n : String)
  | tup (xs : List PV) | ktu (xs : List PV) | lst (xs : List PV) | kls (xs : List PV) | ref (n : Nat) | con (x : Str)
inductive AO where
  | lst (xs : List PV)
  | dic (kvs : List (PV × PV))
  | dct (kvs : List (PV × PV))
  | ins (c : Str) (fs : List (Str × PV))
abbrev AS := List (Option AO)
/-- the addresses of the live objects -/
def Lv (φ : List Addr) (S : AS) : Addr → Prop := fun a => ∃ (n : Nat) (o : AO), S[n]? = some (some o) ∧ φ[n]? = some a
def uni (A B : Addr → Prop) : Addr → Prop := fun a => A a ∨ B a
/-- a tuple, a list that nobody changes -/
def TpI (H : Hp) (M : Addr → Prop) (a : Addr) (vs : List V) : Prop := H a = some (.tup vs) ∧ ¬ M a
/-- a tuple that is not tracked as one (of the top) -/
def KtI (K : PySem.W.Frag) (H : Hp) (M : Addr → Prop) (a : Addr) (vs : List V) : Prop :=
  ((∃ o, H a = some (.frz o (.tup vs))) ∧ ¬ M a) ∨ ∃ (o : Obj) (its : Array Value) (n : Nat), K.lookup a = some o ∧ o.cls = .type "tuple" ∧ o.data = .seq its n ∧ its.size ≤ sizeLine ∧ Vals vs its.toList
def LsI (H : Hp) (M : Addr → Prop) (a : Addr) (vs : List V) : Prop := H a = some (.lst vs) ∧ ¬ M a
/-- a list that is not tracked as one (the script, a list of the top) -/
def KlI (K : PySem.W.Frag) (H : Hp) (M : Addr → Prop) (a : Addr) (vs : List V) : Prop :=
  ((∃ o, H a = some (.frz o (.lst vs))) ∧ ¬ M a) ∨ ∃ (o : Obj) (its : Array Value) (n : Nat), K.lookup a = some o ∧ o.cls = .type "list" ∧ o.dict = none ∧ o.data = .seq its n ∧ its.size ≤ sizeLine ∧ Vals vs its.toList
mutual
inductive RV (K : PySem.W.Frag) (H : Hp) (φ : List Addr) (M : Addr → Prop) : PV → V → Prop
  | non : RV K H φ M .non .non
  | bl {b} : RV K H φ M (.bl b) (.bl b)
  | int {i} : RV K H φ M (.int i) (.int i)
  | str {x} : RV K H φ M (.str x) (.str x)
  | ty {n} : RV K H φ M (.ty n) (.ty n)
  | con {x} : RV K H φ M (.con x) (.ref (ga K x))
  | ref {n a} : φ[n]? = some a → RV K H φ M (.ref n) (.ref a)
  | tup {xs vs a} : TpI H M a vs → RVs K H φ M xs vs → RV K H φ M (.tup xs) (.ref a)
  | ktu {xs vs a} : KtI K H M a vs → RVs K H φ M xs vs → RV K H φ M (.ktu xs) (.ref a)
  | lst {xs vs a} : LsI H M a vs → RVs K H φ M xs vs → RV K H φ M (.lst xs) (.ref a)
  | kls {xs vs a} : KlI K H M a vs → RVs K H φ M xs vs → RV K H φ M (.kls xs) (.ref a)
inductive RVs (K : PySem.W.Frag) (H : Hp) (φ : List Addr) (M : Addr → Prop) : List PV → List V → Prop
  | nil : RVs K H φ M [] []
  | cons {p ps v vs} : RV K H φ M p v → RVs K H φ M ps vs → RVs K H φ M (p :: ps) (v :: vs)
end
section
variable {K : PySem.W.Frag} {H H' : Hp} {φ φ' : List Addr} {M M' : Addr → Prop}
theorem TpI.mono {a : Addr} {vs : List V} (k : ∀ a, H a ≠ none → ¬ M a → H' a = H a ∧ ¬ M' a) (h : TpI H M a vs) : TpI H' M' a vs :=
  let ⟨e, m'⟩ := k a (by rw [h.1]; nofun) h.2
  ⟨e.trans h.1, m'⟩
theorem KtI.mono {a : Addr} {vs : List V} (k : ∀ a, H a ≠ none → ¬ M a → H' a = H a ∧ ¬ M' a) (h : KtI K H M a vs) : KtI K H' M' a vs := by
  rcases h with ⟨⟨o, h⟩, m⟩ | h
  · obtain ⟨e, m'⟩ := k a (by rw [h]; nofun) m
    exact .inl ⟨⟨o, e.trans h⟩, m'⟩
  · exact .inr h
theorem LsI.mono {a : Addr} {vs : List V} (k : ∀ a, H a ≠ none → ¬ M a → H' a = H a ∧ ¬ M' a) (h : LsI H M a vs) : LsI H' M' a vs :=
  let ⟨e, m'⟩ := k a (by rw [h.1]; nofun) h.2
  ⟨e.trans h.1, m'⟩
theorem KlI.mono {a : Addr} {vs : List V} (k : ∀ a, H a ≠ none → ¬ M a → H' a = H a ∧ ¬ M' a) (h : KlI K H M a vs) : KlI K H' M' a vs := by
  rcases h with ⟨⟨o, h⟩, m⟩ | h
  · obtain ⟨e, m'⟩ := k a (by rw [h]; nofun) m
    exact .inl ⟨⟨o, e.trans h⟩, m'⟩
  · exact .inr h
theorem TpI.sq {a : Addr} {vs : List V} (h : TpI H M a vs) : SqT K H a vs := .inl (.inl h.1)
theorem KtI.sq {a : Addr} {vs : List V} (h : KtI K H M a vs) : SqT K H a vs := h.imp (fun z => .inr z.1) id
theorem LsI.sq {a : Addr} {vs : List V} (h : LsI H M a vs) : SqL K H a vs := .inl (.inl h.1)
theorem KlI.sq {a : Addr} {vs : List V} (h : KlI K H M a vs) : SqL K H a vs := h.imp (fun z => .inr z.1) id
mutual
theorem RV.mono (k : ∀ a, H a ≠ none → ¬ M a → H' a = H a ∧ ¬ M' a) (g : ∀ (n : Nat) a, φ[n]? = some a → φ'[n]? = some a) : ∀ {p : PV} {v : V}, RV K H φ M p v → RV K H' φ' M' p v
  | _, _, .non => .non
  | _, _, .bl => .bl
  | _, _, .int => .int
  | _, _, .str => .str
  | _, _, .ty => .ty
  | _, _, .con => .con
  | _, _, .ref h => .ref (g _ _ h)
  | _, _, .tup h r => .tup (h.mono k) (RVs.mono k g r)
  | _, _, .ktu h r => .ktu (h.mono k) (RVs.mono k g r)
  | _, _, .lst h r => .lst (h.mono k) (RVs.mono k g r)
  | _, _, .kls h r => .kls (h.mono k) (RVs.mono k g r)
theorem RVs.mono (k : ∀ a, H a ≠ none → ¬ M a → H' a = H a ∧ ¬ M' a) (g : ∀ (n : Nat) a, φ[n]? = some a → φ'[n]? = some a) : ∀ {p : List PV} {v : List V}, RVs K H φ M p v → RVs K H' φ' M' p v
  | _, _, .nil => .nil
  | _, _, .cons h r => .cons (RV.mono k g h) (RVs.mono k g r)
end
theorem RVs.len : ∀ {ps : List PV} {vs : List V}, RVs K H φ M ps vs → vs.length = ps.length
  | _, _, .nil => rfl
  | _, _, .cons _ r => congrArg Nat.succ r.len
theorem RVs.get : ∀ {ps : List PV} {vs : List V} {i : Nat} {p : PV}, RVs K H φ M ps vs → ps[i]? = some p → ∃ v, vs[i]? = some v ∧ RV K H φ M p v
  | _, _, _, _, .nil, e => by simp at e
  | _, _, 0, _, .cons r _, e => by simp at e; subst e; exact ⟨_, rfl, r⟩
  | _, _, i + 1, _, .cons _ t, e => by
    obtain ⟨u, h1, h2⟩ := RVs.get (i := i) t (by simpa using e)
    exact ⟨u, by simpa using h1, h2⟩
theorem RVs.append : ∀ {ps qs : List PV} {vs ws : List V}, RVs K H φ M ps vs → RVs K H φ M qs ws → RVs K H φ M (ps ++ qs) (vs ++ ws)
  | _, _, _, _, .nil, s => s
  | _, _, _, _, .cons r t, s => .cons r (t.append s)
theorem RVs.take : ∀ {ps : List PV} {vs : List V} (n : Nat), RVs K H φ M ps vs → RVs K H φ M (ps.take n) (vs.take n)
  | _, _, 0, _ => .nil
  | _, _, _ + 1, .nil => .nil
  | _, _, n + 1, .cons r t => .cons r (t.take n)
theorem RVs.drop : ∀ {ps : List PV} {vs : List V} (n : Nat), RVs K H φ M ps vs → RVs K H φ M (ps.drop n) (vs.drop n)
  | _, _, 0, r => r
  | _, _, _ + 1, .nil => .nil
  | _, _, n + 1, .cons _ t => t.drop n
theorem RVs.set {p : PV} {v : V} (r : RV K H φ M p v) : ∀ {ps : List PV} {vs : List V} (i : Nat), RVs K H φ M ps vs → RVs K H φ M (ps.set i p) (vs.set i v)
  | _, _, _, .nil => .nil
  | _, _, 0, .cons _ t => .cons r t
  | _, _, i + 1, .cons q t => .cons q (t.set r i)
theorem RVs.eraseIdx : ∀ {ps : List PV} {vs : List V} (i : Nat), RVs K H φ M ps vs → RVs K H φ M (ps.eraseIdx i) (vs.eraseIdx i)
  | _, _, _, .nil => .nil
  | _, _, 0, .cons _ t => t
  | _, _, i + 1, .cons q t => .cons q (t.eraseIdx i)
theorem RVs.reverse : ∀ {ps : List PV} {vs : List V}, RVs K H φ M ps vs → RVs K H φ M ps.reverse vs.reverse
  | _, _, .nil => .nil
  | _, _, .cons q t => by
    rw [List.reverse_cons, List.reverse_cons]
    exact t.reverse.append (.cons q .nil)
end
/-! ### states -/
/-- fields, by names -/
inductive RFs (K : PySem.W.Frag) (H : Hp) (φ : List Addr) (M : Addr → Prop) : List (Str × PV) → List (Str × V) → Prop
  | nil : RFs K H φ M [] []
  | cons {x p v ps vs} : RV K H φ M p v → RFs K H φ M ps vs → RFs K H φ M ((x, p) :: ps) ((x, v) :: vs)
def keyOf : PV → Option Key
  | .int i => some (.inl i)
  | .str x => some (.inr x)
  | _ => none
inductive RKs (K : PySem.W.Frag) (H : Hp) (φ : List Addr) (M : Addr → Prop) : List (PV × PV) → List (Key × V) → Prop
  | nil : RKs K H φ M [] []
  | cons {k x p v ps vs} : keyOf k = some x → RV K H φ M p v → RKs K H φ M ps vs → RKs K H φ M ((k, p) :: ps) ((x, v) :: vs)
def keysOf : List PV → Option (List Key)
  | [] => some []
  | p :: ps => match keyOf p, keysOf ps with
    | some k, some ks => some (k :: ks)
    | _, _ => none
def tupKey : PV → Option (List Key)
  | .tup ps => keysOf ps
  | _ => none
inductive RTs (K : PySem.W.Frag) (H : Hp) (φ : List Addr) (M : Addr → Prop) : List (PV × PV) → List (List Key × V) → Prop
  | nil : RTs K H φ M [] []
  | cons {k x p v ps vs} : tupKey k = some x → RV K H φ M p v → RTs K H φ M ps vs → RTs K H φ M ((k, p) :: ps) ((x, v) :: vs)
inductive RO (K : PySem.W.Frag) (H : Hp) (φ : List Addr) (M : Addr → Prop) : AO → HO → Prop
  | lst {xs vs} : RVs K H φ M xs vs → RO K H φ M (.lst xs) (.lst vs)
  | dK {kvs ws} : RKs K H φ M kvs ws → RO K H φ M (.dic kvs) (.dK ws)
  | dT {kvs ws} : RTs K H φ M kvs ws → RO K H φ M (.dct kvs) (.dT ws)
  | ins {c fs dx gs} : RFs K H φ M fs gs → RO K H φ M (.ins c fs) (.ins (ga K c) dx gs)
section
variable {K : PySem.W.Frag} {H H' : Hp} {φ φ' : List Addr} {M M' : Addr → Prop}
theorem RFs.mono (k : ∀ a, H a ≠ none → ¬ M a → H' a = H a ∧ ¬ M' a) (g : ∀ (n : Nat) a, φ[n]? = some a → φ'[n]? = some a) : ∀ {p q}, RFs K H φ M p q → RFs K H' φ' M' p q
  | _, _, .nil => .nil
  | _, _, .cons h r => .cons (h.mono k g) (r.mono k g)
theorem RKs.mono (k : ∀ a, H a ≠ none → ¬ M a → H' a = H a ∧ ¬ M' a) (g : ∀ (n : Nat) a, φ[n]? = some a → φ'[n]? = some a) : ∀ {p q}, RKs K H φ M p q → RKs K H' φ' M' p q
  | _, _, .nil => .nil
  | _, _, .cons e h r => .cons e (h.mono k g) (r.mono k g)
theorem RTs.mono (k : ∀ a, H a ≠ none → ¬ M a → H' a = H a ∧ ¬ M' a) (g : ∀ (n : Nat) a, φ[n]? = some a → φ'[n]? = some a) : ∀ {p q}, RTs K H φ M p q → RTs K H' φ' M' p q
  | _, _, .nil => .nil
  | _, _, .cons e h r => .cons e (h.mono k g) (r.mono k g)
theorem RO.mono (k : ∀ a, H a ≠ none → ¬ M a → H' a = H a ∧ ¬ M' a) (g : ∀ (n : Nat) a, φ[n]? = some a → φ'[n]? = some a) : ∀ {p q}, RO K H φ M p q → RO K H' φ' M' p q
  | _, _, .lst h => .lst (h.mono k g)
  | _, _, .dK h => .dK (h.mono k g)
  | _, _, .dT h => .dT (h.mono k g)
  | _, _, .ins h => .ins (h.mono k g)
end
/-- the live objects stand in the heap; F: what is not to be touched -/
structure WF (K : PySem.W.Frag) (H : Hp) (φ : List Addr) (S : AS) (F : Addr → Prop) : Prop where
  len : φ.length = S.length
  live : ∀ (n : Nat) o, S[n]? = some (some o) → ∃ a ho, φ[n]? = some a ∧ H a = some ho ∧ RO K H φ (uni (Lv φ S) F) o ho
  inj : ∀ (n m : Nat) a o u, S[n]? = some (some o) → S[m]? = some (some u) → φ[n]? = some a → φ[m]? = some a → n = m
  away : ∀ a, F a → H a ≠ none ∧ ¬ Lv φ S a
/-- from one state to a later one: what is not at M stands as it was -/
structure Ev (H : Hp) (φ : List Addr) (M : Addr → Prop) (H' : Hp) (φ' : List Addr) (M' : Addr → Prop) : Prop where
  stay : ∀ a, H a ≠ none → H' a ≠ none
  keep : ∀ a, H a ≠ none → ¬ M a → H' a = H a ∧ ¬ M' a
  pre : ∀ (n : Nat) a, φ[n]? = some a → φ'[n]? = some a
section
variable {K : PySem.W.Frag} {H H' H1 H2 : Hp} {φ φ' φ1 φ2 : List Addr} {M M' M1 M2 F : Addr → Prop} {S S' S1 S2 : AS}
theorem Ev.refl : Ev H φ M H φ M := ⟨fun _ h => h, fun _ _ m => ⟨rfl, m⟩, fun _ _ h => h⟩
theorem Ev.trans (a : Ev H φ M H1 φ1 M1) (b : Ev H1 φ1 M1 H2 φ2 M2) : Ev H φ M H2 φ2 M2 :=
  ⟨fun x h => b.stay x (a.stay x h), fun x h m => by
    obtain ⟨e1, m1⟩ := a.keep x h m
    obtain ⟨e2, m2⟩ := b.keep x (by rw [e1]; exact h) m1
    exact ⟨e2.trans e1, m2⟩, fun n x h => b.pre n x (a.pre n x h)⟩
/-- with what is not to be touched -/
theorem Ev.keepU (e : Ev H φ (Lv φ S) H' φ' (Lv φ' S')) : ∀ a, H a ≠ none → ¬ uni (Lv φ S) F a → H' a = H a ∧ ¬ uni (Lv φ' S') F a := fun a h m => by
  obtain ⟨e1, m1⟩ := e.keep a h fun z => m (.inl z)
  exact ⟨e1, fun z => z.elim m1 fun z => m (.inr z)⟩
theorem Ev.rv (e : Ev H φ (Lv φ S) H' φ' (Lv φ' S')) {p : PV} {v : V} (r : RV K H φ (uni (Lv φ S) F) p v) : RV K H' φ' (uni (Lv φ' S') F) p v := r.mono e.keepU e.pre
theorem Ev.rvs (e : Ev H φ (Lv φ S) H' φ' (Lv φ' S')) {p : List PV} {v : List V} (r : RVs K H φ (uni (Lv φ S) F) p v) : RVs K H' φ' (uni (Lv φ' S') F) p v := r.mono e.keepU e.pre
theorem WF.away' (w : WF K H φ S F) (e : Ev H φ (Lv φ S) H' φ' (Lv φ' S')) : ∀ a, F a → H' a ≠ none ∧ ¬ Lv φ' S' a := fun a h => by
  obtain ⟨h1, h2⟩ := w.away a h
  obtain ⟨e1, m1⟩ := e.keep a h1 h2
  exact ⟨by rw [e1]; exact h1, m1⟩
/-- a new object that nobody tracks as live: the state stays well -/
theorem lv_none (w : WF K H φ S F) {p : Addr} (hp : H p = none) : ¬ Lv φ S p := fun ⟨n, o, e1, e2⟩ => by
  obtain ⟨a, ho, e3, e4, _⟩ := w.live n o e1
  rw [e2] at e3
  cases e3
  rw [hp] at e4
  cases e4
theorem f_none (w : WF K H φ S F) {p : Addr} (hp : H p = none) : ¬ F p := fun h => (w.away p h).1 hp
theorem ev_new {o : HO} {p : Addr} (hp : H p = none) : Ev H φ M (upd H p o) φ M := ⟨fun a h => by
  have e : upd H p o a = H a := upd_ne (fun z => h (by rw [z]; exact hp))
  rw [e]; exact h, fun a h m => ⟨upd_ne fun z => h (z ▸ hp), m⟩, fun _ _ h => h⟩
theorem WF.new (w : WF K H φ S F) {p : Addr} {o : HO} (hp : H p = none) : WF K (upd H p o) φ S F where
  len := w.len
  live := fun n u e => by
    obtain ⟨a, ho, e1, e2, r⟩ := w.live n u e
    refine ⟨a, ho, e1, (upd_ne fun z => ?_).trans e2, r.mono (ev_new (M := uni (Lv φ S) F) (φ := φ) hp).keep fun _ _ h => h⟩
    rw [z, hp] at e2
    cases e2
  inj := w.inj
  away := fun a h => by
    obtain ⟨h1, h2⟩ := w.away a h
    have e : upd H p o a = H a := upd_ne (fun z => h1 (by rw [z]; exact hp))
    exact ⟨by rw [e]; exact h1, h2⟩
theorem RV.newTup (w : WF K H φ S F) {p : Addr} {xs : List PV} {vs : List V} (hp : H p = none) (r : RVs K H φ (uni (Lv φ S) F) xs vs) : RV K (upd H p (.tup vs)) φ (uni (Lv φ S) F) (.tup xs) (.ref p) :=
  .tup ⟨upd_same, fun z => z.elim (lv_none w hp) (f_none w hp)⟩ (r.mono (ev_new (φ := φ) hp).keep fun _ _ h => h)
theorem RV.newLst (w : WF K H φ S F) {p : Addr} {xs : List PV} {vs : List V} (hp : H p = none) (r : RVs K H φ (uni (Lv φ S) F) xs vs) : RV K (upd H p (.lst vs)) φ (uni (Lv φ S) F) (.lst xs) (.ref p) :=
  .lst ⟨upd_same, fun z => z.elim (lv_none w hp) (f_none w hp)⟩ (r.mono (ev_new (φ := φ) hp).keep fun _ _ h => h)
end
end Fu

end
section
set_option Elab.async false
set_option linter.all false
set_option maxRecDepth 100000
set_option maxHeartbeats 4000000
namespace Fu
open PySem PySem.Spec PyProof.Rows L2
open He (ga)
/-- what comes of an evaluation -/
inductive R (α : Type) where
  | ok (a : α) (S : AS) | exc (c : Str) (fs : List (Str × PV)) (S : AS) | stuck
def R.bind {α β : Type} (r : R α) (g : α → AS → R β) : R β := match r with
  | .ok a S => g a S
  | .exc c fs S => .exc c fs S
  | .stuck => .stuck
@[simp] theorem R.bind_ok {α β : Type} {a : α} {S : AS} {g : α → AS → R β} : (R.ok a S).bind g = g a S := rfl
@[simp] theorem R.bind_exc {α β : Type} {c : Str} {fs : List (Str × PV)} {S : AS} {g : α → AS → R β} : (R.exc c fs S : R α).bind g = .exc c fs S := rfl
@[simp] theorem R.bind_stuck {α β : Type} {g : α → AS → R β} : (R.stuck : R α).bind g = .stuck := rfl
/-- a slot: nothing known; a value; a list that the slot alone holds -/
inductive Sl where
  | no | val (p : PV) | own (xs : List PV) | pin (fs : List (Str × PV))
abbrev Sls := List Sl
/-- the error's own dict -/
def RX (K : PySem.W.Frag) (H : Hp) (φ : List Addr) (M : Addr → Prop) (fs : List (Str × PV)) (d : Option Addr) : Prop :=
  (fs = [] ∧ d = none) ∨ ∃ dd gs, d = some dd ∧ H dd = some (.xd gs) ∧ RFs K H φ M fs gs ∧ ¬ M dd
theorem RX.mono {K : PySem.W.Frag} {H H' : Hp} {φ φ' : List Addr} {M M' : Addr → Prop} {fs : List (Str × PV)} {d : Option Addr} (k : ∀ a, H a ≠ none → ¬ M a → H' a = H a ∧ ¬ M' a) (g : ∀ (n : Nat) a, φ[n]? = some a → φ'[n]? = some a) (r : RX K H φ M fs d) : RX K H' φ' M' fs d := by
  rcases r with r | ⟨dd, gs, e, h, r, m⟩
  · exact .inl r
  · obtain ⟨e1, m1⟩ := k dd (by rw [h]; nofun) m
    exact .inr ⟨dd, gs, e, e1.trans h, r.mono k g, m1⟩
theorem RX.less {K : PySem.W.Frag} {H : Hp} {φ : List Addr} {M M' : Addr → Prop} {fs : List (Str × PV)} {d : Option Addr} (h : ∀ a, M' a → M a) (r : RX K H φ M fs d) : RX K H φ M' fs d := r.mono (fun a _ m => ⟨rfl, fun z => m (h a z)⟩) fun _ _ h => h
structure RE (K : PySem.W.Frag) (pv : V × Option Addr) (H : Hp) (φ : List Addr) (M O : Addr → Prop) (η : Sls) (σ : L2.St) : Prop where
  len : σ.length = η.length
  val : ∀ (i : Nat) p, η[i]? = some (.val p) → ∃ v, σ[i]? = some (some v) ∧ RV K H φ M p v
  own : ∀ (i : Nat) xs, η[i]? = some (.own xs) → ∃ a vs, σ[i]? = some (some (.ref a)) ∧ H a = some (.lst vs) ∧ RVs K H φ M xs vs ∧ O a
  pin : ∀ (i : Nat) fs, η[i]? = some (.pin fs) → σ[i]? = some (some pv.1) ∧ RX K H φ M fs pv.2
theorem pin_set {v : V} {P P' : List (Str × PV) → Prop} {η : Sls} {σ : L2.St} {i : Nat} {s : Sl} {x : Option V} (hs : ∀ fs, s ≠ .pin fs) (m : ∀ fs, P fs → P' fs) (h : ∀ (j : Nat) fs, η[j]? = some (.pin fs) → σ[j]? = some (some v) ∧ P fs) : ∀ (j : Nat) fs, (η.set i s)[j]? = some (.pin fs) → (σ.set i x)[j]? = some (some v) ∧ P' fs := fun j fs e => by
  by_cases q : i = j
  · subst q
    rw [List.getElem?_set] at e
    split at e
    · split at e
      · exact absurd (Option.some.inj e) (hs fs)
      · cases e
    · exact absurd rfl ‹_›
  · rw [List.getElem?_set_ne q] at e ⊢
    obtain ⟨h1, h2⟩ := h j fs e
    exact ⟨h1, m fs h2⟩
theorem pin_set1 {v : V} {P P' : List (Str × PV) → Prop} {η : Sls} {σ : L2.St} {i : Nat} {s : Sl} (hs : ∀ fs, s ≠ .pin fs) (m : ∀ fs, P fs → P' fs) (h : ∀ (j : Nat) fs, η[j]? = some (.pin fs) → σ[j]? = some (some v) ∧ P fs) : ∀ (j : Nat) fs, (η.set i s)[j]? = some (.pin fs) → σ[j]? = some (some v) ∧ P' fs := fun j fs e => by
  by_cases q : i = j
  · subst q
    rw [List.getElem?_set] at e
    split at e
    · split at e
      · exact absurd (Option.some.inj e) (hs fs)
      · cases e
    · exact absurd rfl ‹_›
  · rw [List.getElem?_set_ne q] at e
    obtain ⟨h1, h2⟩ := h j fs e
    exact ⟨h1, m fs h2⟩
/-- a value, or a list that is lent -/
def RB (K : PySem.W.Frag) (H : Hp) (φ : List Addr) (M O : Addr → Prop) (p : PV) (v : V) : Prop :=
  RV K H φ M p v ∨ ∃ a xs vs, p = .lst xs ∧ v = .ref a ∧ H a = some (.lst vs) ∧ O a ∧ RVs K H φ M xs vs
abbrev XW := L2.St → XK
def GoE {α : Type} (K : PySem.W.Frag) (E : XK) (F : Addr → Prop) (H : Hp) (φ : List Addr) (S : AS) (r : R α) (P : α → List Addr → AS → Hp → Prop) : Prop := match r with
  | .ok a S' => ∀ φ' H', Ev H φ (Lv φ S) H' φ' (Lv φ' S') → WF K H' φ' S' F → P a φ' S' H'
  | .exc c fs S' => ∀ φ' H' d, Ev H φ (Lv φ S) H' φ' (Lv φ' S') → WF K H' φ' S' F → RX K H' φ' (uni (Lv φ' S') F) fs d → E (.ref (ga K c)) d H'
  | .stuck => False
section
variable {K : PySem.W.Frag} {pv : V × Option Addr} {E : XK} {F O : Addr → Prop} {H H' H1 : Hp} {φ φ' φ1 : List Addr} {S S' S1 : AS} {α β : Type} {η : Sls} {σ : L2.St}
theorem RE.mono (w : WF K H φ S F) (hO : ∀ a, O a → F a) (e : Ev H φ (Lv φ S) H' φ' (Lv φ' S')) (r : RE K pv H φ (uni (Lv φ S) F) O η σ) : RE K pv H' φ' (uni (Lv φ' S') F) O η σ where
  len := r.len
  val := fun i p h => let ⟨v, h1, h2⟩ := r.val i p h; ⟨v, h1, e.rv h2⟩
  own := fun i xs h => by
    obtain ⟨a, vs, h1, h2, h3, h4⟩ := r.own i xs h
    obtain ⟨q1, q2⟩ := w.away a (hO a h4)
    exact ⟨a, vs, h1, (e.keep a q1 q2).1.trans h2, e.rvs h3, h4⟩
  pin := fun i fs h => let ⟨h1, h2⟩ := r.pin i fs h; ⟨h1, h2.mono e.keepU e.pre⟩
theorem RB.mono (w : WF K H φ S F) (hO : ∀ a, O a → F a) (e : Ev H φ (Lv φ S) H' φ' (Lv φ' S')) {p : PV} {v : V} (r : RB K H φ (uni (Lv φ S) F) O p v) : RB K H' φ' (uni (Lv φ' S') F) O p v := by
  rcases r with r | ⟨a, xs, vs, h1, h2, h3, h4, h5⟩
  · exact .inl (e.rv r)
  · obtain ⟨q1, q2⟩ := w.away a (hO a h4)
    exact .inr ⟨a, xs, vs, h1, h2, (e.keep a q1 q2).1.trans h3, h4, e.rvs h5⟩
theorem GoE.bind {r : R α} {g : α → AS → R β} {P : β → List Addr → AS → Hp → Prop} (h : GoE K E F H φ S (r.bind g) P) : GoE K E F H φ S r fun a φ1 S1 H1 => GoE K E F H1 φ1 S1 (g a S1) P := by
  cases r with
  | ok a S1 =>
    intro φ1 H1 e1 w1
    have h' : GoE K E F H φ S (g a S1) P := h
    cases q : g a S1 with
    | ok b S2 =>
      rw [q] at h'
      exact fun φ2 H2 e2 w2 => h' φ2 H2 (e1.trans e2) w2
    | exc c fs S2 =>
      rw [q] at h'
      exact fun φ2 H2 d e2 w2 x => h' φ2 H2 d (e1.trans e2) w2 x
    | stuck =>
      rw [q] at h'
      exact h'.elim
  | exc c fs S2 => exact h
  | stuck => exact h
theorem GoE.imp {r : R α} {P P' : α → List Addr → AS → Hp → Prop} (h : GoE K E F H φ S r P) (f : ∀ a φ' S' H', Ev H φ (Lv φ S) H' φ' (Lv φ' S') → WF K H' φ' S' F → P a φ' S' H' → P' a φ' S' H') : GoE K E F H φ S r P' := by
  cases r with
  | ok a S1 => exact fun φ1 H1 e1 w1 => f _ _ _ _ e1 w1 (h φ1 H1 e1 w1)
  | exc c fs S2 => exact h
  | stuck => exact h
theorem GoE.ok {a : α} {P : α → List Addr → AS → Hp → Prop} (w : WF K H φ S F) (h : GoE K E F H φ S (.ok a S) P) : P a φ S H := h φ H Ev.refl w
theorem GoE.new {a : α} {P : α → List Addr → AS → Hp → Prop} (w : WF K H φ S F) {p : Addr} {o : HO} (hp : H p = none) (h : GoE K E F H φ S (.ok a S) P) : P a φ S (upd H p o) := h φ _ (ev_new hp) (w.new hp)
end
/-! ### expressions that follow functions -/
abbrev FE := Sls → AS → R PV
abbrev FT := Sls → AS → R Bool
abbrev FA := Sls → AS → R (List PV)
abbrev FO := Sls → AS → R (Option Int)
def SimE (K : PySem.W.Frag) (pv : V × Option Addr) (E : XW) (t : TE) (f : FE) : Prop := ∀ (H : Hp) (φ : List Addr) (S : AS) (F O : Addr → Prop) (η : Sls) (σ : L2.St) (Q : VK), WF K H φ S F → (∀ a, O a → F a) → RE K pv H φ (uni (Lv φ S) F) O η σ →
  GoE K (E σ) F H φ S (f η S) (fun p φ' S' H' => ∀ v, RV K H' φ' (uni (Lv φ' S') F) p v → Q v H') → t σ H Q
/-- .. whose value may be lent -/
def SimB (K : PySem.W.Frag) (pv : V × Option Addr) (E : XW) (t : TE) (f : FE) : Prop := ∀ (H : Hp) (φ : List Addr) (S : AS) (F O : Addr → Prop) (η : Sls) (σ : L2.St) (Q : VK), WF K H φ S F → (∀ a, O a → F a) → RE K pv H φ (uni (Lv φ S) F) O η σ →
  GoE K (E σ) F H φ S (f η S) (fun p φ' S' H' => ∀ v, RB K H' φ' (uni (Lv φ' S') F) O p v → Q v H') → t σ H Q
def SimT (K : PySem.W.Frag) (pv : V × Option Addr) (E : XW) (t : TT) (f : FT) : Prop := ∀ (H : Hp) (φ : List Addr) (S : AS) (F O : Addr → Prop) (η : Sls) (σ : L2.St) (Q : Bool → Hp → Prop), WF K H φ S F → (∀ a, O a → F a) → RE K pv H φ (uni (Lv φ S) F) O η σ →
  GoE K (E σ) F H φ S (f η S) (fun p φ' S' H' => Q p H') → t σ H Q
def SimA (K : PySem.W.Frag) (pv : V × Option Addr) (E : XW) (t : TA) (f : FA) : Prop := ∀ (H : Hp) (φ : List Addr) (S : AS) (F O : Addr → Prop) (η : Sls) (σ : L2.St) (Q : List V → Hp → Prop), WF K H φ S F → (∀ a, O a → F a) → RE K pv H φ (uni (Lv φ S) F) O η σ →
  GoE K (E σ) F H φ S (f η S) (fun p φ' S' H' => ∀ v, RVs K H' φ' (uni (Lv φ' S') F) p v → Q v H') → t σ H Q
/-- arguments that may be lent -/
def RBs (K : PySem.W.Frag) (H : Hp) (φ : List Addr) (M O : Addr → Prop) : List PV → List V → Prop
  | [], [] => True
  | p :: ps, v :: vs => RB K H φ M O p v ∧ RBs K H φ M O ps vs
  | _, _ => False
def SimAB (K : PySem.W.Frag) (pv : V × Option Addr) (E : XW) (t : TA) (f : FA) : Prop := ∀ (H : Hp) (φ : List Addr) (S : AS) (F O : Addr → Prop) (η : Sls) (σ : L2.St) (Q : List V → Hp → Prop), WF K H φ S F → (∀ a, O a → F a) → RE K pv H φ (uni (Lv φ S) F) O η σ →
  GoE K (E σ) F H φ S (f η S) (fun p φ' S' H' => ∀ v, RBs K H' φ' (uni (Lv φ' S') F) O p v → Q v H') → t σ H Q
def SimO (K : PySem.W.Frag) (pv : V × Option Addr) (E : XW) (t : TO) (f : FO) : Prop := ∀ (H : Hp) (φ : List Addr) (S : AS) (F O : Addr → Prop) (η : Sls) (σ : L2.St) (Q : Option Int → Hp → Prop), WF K H φ S F → (∀ a, O a → F a) → RE K pv H φ (uni (Lv φ S) F) O η σ →
  GoE K (E σ) F H φ S (f η S) (fun p φ' S' H' => Q p H') → t σ H Q
/-- operations by values -/
def SimR (K : PySem.W.Frag) (r : R2) (g : PV → PV → AS → R PV) : Prop := ∀ (H : Hp) (φ : List Addr) (S : AS) (F O : Addr → Prop) (p q : PV) (x y : V) (Q : VK), WF K H φ S F → (∀ a, O a → F a) → RB K H φ (uni (Lv φ S) F) O p x → RB K H φ (uni (Lv φ S) F) O q y →
  GoE K (fun _ _ _ => False) F H φ S (g p q S) (fun p φ' S' H' => ∀ v, RV K H' φ' (uni (Lv φ' S') F) p v → Q v H') → r x y H Q
def SimU (K : PySem.W.Frag) (r : V → Hp → VK → Prop) (g : PV → AS → R PV) : Prop := ∀ (H : Hp) (φ : List Addr) (S : AS) (F O : Addr → Prop) (p : PV) (x : V) (Q : VK), WF K H φ S F → (∀ a, O a → F a) → RB K H φ (uni (Lv φ S) F) O p x →
  GoE K (fun _ _ _ => False) F H φ S (g p S) (fun p φ' S' H' => ∀ v, RV K H' φ' (uni (Lv φ' S') F) p v → Q v H') → r x H Q
def SimC (K : PySem.W.Frag) (r : List V → Hp → VK → Prop) (g : List PV → AS → R PV) : Prop := ∀ (H : Hp) (φ : List Addr) (S : AS) (F O : Addr → Prop) (ps : List PV) (xs : List V) (Q : VK), WF K H φ S F → (∀ a, O a → F a) → RBs K H φ (uni (Lv φ S) F) O ps xs →
  GoE K (fun _ _ _ => False) F H φ S (g ps S) (fun p φ' S' H' => ∀ v, RV K H' φ' (uni (Lv φ' S') F) p v → Q v H') → r xs H Q
def SimSl (K : PySem.W.Frag) (r : V → Option Int → Option Int → Hp → VK → Prop) (g : PV → Option Int → Option Int → AS → R PV) : Prop := ∀ (H : Hp) (φ : List Addr) (S : AS) (F O : Addr → Prop) (p : PV) (x : V) (lo hi : Option Int) (Q : VK), WF K H φ S F → (∀ a, O a → F a) → RB K H φ (uni (Lv φ S) F) O p x →
  GoE K (fun _ _ _ => False) F H φ S (g p lo hi S) (fun p φ' S' H' => ∀ v, RV K H' φ' (uni (Lv φ' S') F) p v → Q v H') → r x lo hi H Q
section
variable {K : PySem.W.Frag} {pv : V × Option Addr} {E : XW} {F : Addr → Prop} {H : Hp} {φ : List Addr} {S : AS}
theorem GoE.noE {α : Type} {E : XK} {r : R α} {P : α → List Addr → AS → Hp → Prop} (h : GoE K E F H φ S r P) (hn : ∀ c fs S', r ≠ .exc c fs S') : GoE K (fun _ _ _ => False) F H φ S r P := by
  cases r with
  | ok a S1 => exact h
  | exc c fs S2 => exact (hn c fs S2 rfl).elim
  | stuck => exact h
end
/-- a value's function, its errors none -/
def pureR {α : Type} (r : R α) : R α := match r with
  | .ok a S => .ok a S
  | _ => .stuck
theorem pureR_go {α : Type} {K : PySem.W.Frag} {E : XK} {F : Addr → Prop} {H : Hp} {φ : List Addr} {S : AS} {r : R α} {P : α → List Addr → AS → Hp → Prop} (h : GoE K E F H φ S (pureR r) P) : GoE K (fun _ _ _ => False) F H φ S r P := by
  cases r with
  | ok a S1 => exact h
  | exc c fs S2 => exact h.elim
  | stuck => exact h
/-! ### the functions -/
def varF (i : Nat) : FE := fun η S => match η[i]? with
  | some (.val p) => .ok p S
  | _ => .stuck
def bvarF (i : Nat) : FE := fun η S => match η[i]? with
  | some (.val p) => .ok p S
  | some (.own xs) => .ok (.lst xs) S
  | _ => .stuck
def cF (p : PV) : FE := fun _ S => .ok p S
def opF (g : PV → PV → AS → R PV) (a b : FE) : FE := fun η S => (a η S).bind fun p S => (b η S).bind fun q S => pureR (g p q S)
def unF (g : PV → AS → R PV) (a : FE) : FE := fun η S => (a η S).bind fun p S => pureR (g p S)
def callB (g : List PV → AS → R PV) (a : FA) : FE := fun η S => (a η S).bind fun p S => pureR (g p S)
def toB : PV → AS → R Bool := fun p S => match p with
  | .bl b => .ok b S
  | _ => .stuck
def tstF (f : FE) : FT := fun η S => (f η S).bind toB
def andT (a b : FT) : FT := fun η S => (a η S).bind fun c S => if c = true then b η S else .ok false S
def orT (a b : FT) : FT := fun η S => (a η S).bind fun c S => if c = true then .ok true S else b η S
def notT (a : FT) : FT := fun η S => (a η S).bind fun c S => .ok (!c) S
def andF (a b : FE) : FE := fun η S => (a η S).bind fun p S => (toB p S).bind fun c S => if c = true then b η S else .ok (.bl false) S
def orF (a b : FE) : FE := fun η S => (a η S).bind fun p S => (toB p S).bind fun c S => if c = true then .ok (.bl true) S else b η S
def notF (a : FE) : FE := fun η S => (a η S).bind fun p S => (toB p S).bind fun c S => .ok (.bl (!c)) S
def ifF (c : FT) (a b : FE) : FE := fun η S => (c η S).bind fun d S => if d = true then a η S else b η S
def nilA : FA := fun _ S => .ok [] S
def consA (a : FE) (r : FA) : FA := fun η S => (a η S).bind fun p S => (r η S).bind fun ps S => .ok (p :: ps) S
def tupF (a : FA) : FE := fun η S => (a η S).bind fun ps S => if ps.length ≤ 1000000 then .ok (.tup ps) S else .stuck
def lstF (a : FA) : FE := fun η S => (a η S).bind fun ps S => if ps.length ≤ 1000000 then .ok (.lst ps) S else .stuck
def noneO : FO := fun _ S => .ok none S
def someO (a : FE) : FO := fun η S => (a η S).bind fun p S => match p with
  | .int i => .ok (some i) S
  | _ => .stuck
def slF (g : PV → Option Int → Option Int → AS → R PV) (a : FE) (l h : FO) : FE := fun η S => (a η S).bind fun p S => (l η S).bind fun l S => (h η S).bind fun u S => pureR (g p l u S)
theorem million {n : Nat} (h : n ≤ 1000000) : n ≤ sizeLine := by rw [sizeLine_eq]; omega
section
variable {K : PySem.W.Frag} {pv : V × Option Addr} {E : XW}
theorem SimE.b {t : TE} {f : FE} (s : SimE K pv E t f) : SimB K pv E t f := fun H φ S F O η σ Q w hO r h => s H φ S F O η σ Q w hO r (h.imp fun p φ' S' H' _ _ q v rv => q v (.inl rv))
theorem se_var {i : Nat} : SimE K pv E (tVar i) (varF i) := fun H φ S F O η σ Q w hO r h => by
  unfold varF at h
  split at h
  · rename_i p e
    obtain ⟨v, e1, e2⟩ := r.val i p e
    exact ⟨v, e1, h.ok w v e2⟩
  · exact h.elim
theorem sb_var {i : Nat} : SimB K pv E (tVar i) (bvarF i) := fun H φ S F O η σ Q w hO r h => by
  unfold bvarF at h
  split at h
  · rename_i p e
    obtain ⟨v, e1, e2⟩ := r.val i p e
    exact ⟨v, e1, h.ok w v (.inl e2)⟩
  · rename_i xs e
    obtain ⟨a, vs, e1, e2, e3, e4⟩ := r.own i xs e
    exact ⟨_, e1, h.ok w _ (.inr ⟨a, xs, vs, rfl, rfl, e2, e4, e3⟩)⟩
  · exact h.elim
theorem se_int {i : Int} : SimE K pv E (tC (.int i)) (cF (.int i)) := fun H φ S F O η σ Q w hO r h => h.ok w _ .int
theorem se_bl {i : Bool} : SimE K pv E (tC (.bl i)) (cF (.bl i)) := fun H φ S F O η σ Q w hO r h => h.ok w _ .bl
theorem se_non : SimE K pv E (tC .non) (cF .non) := fun H φ S F O η σ Q w hO r h => h.ok w _ .non
theorem se_str {x : Str} : SimE K pv E (tC (.str x)) (cF (.str x)) := fun H φ S F O η σ Q w hO r h => h.ok w _ .str
theorem se_ty {x : String} : SimE K pv E (tC (.ty x)) (cF (.ty x)) := fun H φ S F O η σ Q w hO r h => h.ok w _ .ty
theorem se_con {x : Str} : SimE K pv E (tC (.ref (ga K x))) (cF (.con x)) := fun H φ S F O η σ Q w hO r h => h.ok w _ .con
theorem se_op {r : R2} {g : PV → PV → AS → R PV} {ta tb : TE} {fa fb : FE} (hr : SimR K r g) (ha : SimB K pv E ta fa) (hb : SimB K pv E tb fb) : SimE K pv E (tOp r ta tb) (opF g fa fb) := fun H φ S F O η σ Q w hO re h => by
  refine ha H φ S F O η σ _ w hO re (h.bind.imp fun p φ1 S1 H1 e1 w1 h1 x rx => ?_)
  refine hb H1 φ1 S1 F O η σ _ w1 hO (re.mono w hO e1) (h1.bind.imp fun q φ2 S2 H2 e2 w2 h2 y ry => ?_)
  exact hr H2 φ2 S2 F O p q x y Q w2 hO (rx.mono w1 hO e2) ry (pureR_go h2)
theorem se_un {r : V → Hp → VK → Prop} {g : PV → AS → R PV} {ta : TE} {fa : FE} (hr : SimU K r g) (ha : SimB K pv E ta fa) : SimE K pv E (tUn r ta) (unF g fa) := fun H φ S F O η σ Q w hO re h => by
  refine ha H φ S F O η σ _ w hO re (h.bind.imp fun p φ1 S1 H1 e1 w1 h1 x rx => ?_)
  exact hr H1 φ1 S1 F O p x Q w1 hO rx (pureR_go h1)
theorem se_cb {r : List V → Hp → VK → Prop} {g : List PV → AS → R PV} {ta : TA} {fa : FA} (hr : SimC K r g) (ha : SimAB K pv E ta fa) : SimE K pv E (tCB r ta) (callB g fa) := fun H φ S F O η σ Q w hO re h => by
  refine ha H φ S F O η σ _ w hO re (h.bind.imp fun p φ1 S1 H1 e1 w1 h1 x rx => ?_)
  exact hr H1 φ1 S1 F O p x Q w1 hO rx (pureR_go h1)
theorem toB_go {K : PySem.W.Frag} {E : XK} {F : Addr → Prop} {H : Hp} {φ : List Addr} {S : AS} {p : PV} {P : Bool → List Addr → AS → Hp → Prop} {M O : Addr → Prop} {v : V} (w : WF K H φ S F) (r : RB K H φ M O p v) (h : GoE K E F H φ S (toB p S) P) : ∃ b, p = .bl b ∧ v = .bl b ∧ P b φ S H := by
  unfold toB at h
  split at h
  · rename_i b
    rcases r with r | ⟨_, _, _, z, _⟩
    · cases r
      exact ⟨b, rfl, rfl, h.ok w⟩
    · cases z
  · exact h.elim
theorem st_tst {t : TE} {f : FE} (s : SimB K pv E t f) : SimT K pv E (tTest t) (tstF f) := fun H φ S F O η σ Q w hO re h => by
  refine s H φ S F O η σ _ w hO re (h.bind.imp fun p φ1 S1 H1 e1 w1 h1 x rx => ?_)
  obtain ⟨b, _, e2, h2⟩ := toB_go w1 rx h1
  exact ⟨b, e2, h2⟩
theorem st_tB {t : TE} {f : FE} (s : SimB K pv E t f) : SimT K pv E (tB t) (tstF f) := st_tst s
theorem st_and {t u : TT} {f g : FT} (a : SimT K pv E t f) (b : SimT K pv E u g) : SimT K pv E (tAnd t u) (andT f g) := fun H φ S F O η σ Q w hO re h => by
  refine a H φ S F O η σ _ w hO re (h.bind.imp fun c φ1 S1 H1 e1 w1 h1 => ?_)
  cases c with
  | true => exact b H1 φ1 S1 F O η σ _ w1 hO (re.mono w hO e1) h1
  | false => exact h1.ok w1
theorem st_or {t u : TT} {f g : FT} (a : SimT K pv E t f) (b : SimT K pv E u g) : SimT K pv E (tOr t u) (orT f g) := fun H φ S F O η σ Q w hO re h => by
  refine a H φ S F O η σ _ w hO re (h.bind.imp fun c φ1 S1 H1 e1 w1 h1 => ?_)
  cases c with
  | false => exact b H1 φ1 S1 F O η σ _ w1 hO (re.mono w hO e1) h1
  | true => exact h1.ok w1
theorem st_not {t : TT} {f : FT} (a : SimT K pv E t f) : SimT K pv E (tNot t) (notT f) := fun H φ S F O η σ Q w hO re h => by
  refine a H φ S F O η σ _ w hO re (h.bind.imp fun c φ1 S1 H1 e1 w1 h1 => h1.ok w1)
theorem se_and {ta tb : TE} {f g : FE} (a : SimB K pv E ta f) (b : SimE K pv E tb g) : SimE K pv E (tAndV ta tb) (andF f g) := fun H φ S F O η σ Q w hO re h => by
  refine a H φ S F O η σ _ w hO re (h.bind.imp fun p φ1 S1 H1 e1 w1 h1 x rx => ?_)
  obtain ⟨c, _, e2, h2⟩ := toB_go w1 rx h1.bind
  refine ⟨c, e2, ?_⟩
  cases c with
  | true => exact b H1 φ1 S1 F O η σ _ w1 hO (re.mono w hO e1) h2
  | false => exact h2.ok w1 _ .bl
theorem se_or {ta tb : TE} {f g : FE} (a : SimB K pv E ta f) (b : SimE K pv E tb g) : SimE K pv E (tOrV ta tb) (orF f g) := fun H φ S F O η σ Q w hO re h => by
  refine a H φ S F O η σ _ w hO re (h.bind.imp fun p φ1 S1 H1 e1 w1 h1 x rx => ?_)
  obtain ⟨c, _, e2, h2⟩ := toB_go w1 rx h1.bind
  refine ⟨c, e2, ?_⟩
  cases c with
  | false => exact b H1 φ1 S1 F O η σ _ w1 hO (re.mono w hO e1) h2
  | true => exact h2.ok w1 _ .bl
theorem se_not {ta : TE} {f : FE} (a : SimB K pv E ta f) : SimE K pv E (tNotV ta) (notF f) := fun H φ S F O η σ Q w hO re h => by
  refine a H φ S F O η σ _ w hO re (h.bind.imp fun p φ1 S1 H1 e1 w1 h1 x rx => ?_)
  obtain ⟨c, _, e2, h2⟩ := toB_go w1 rx h1.bind
  exact ⟨c, e2, h2.ok w1 _ .bl⟩
theorem se_if {c : TT} {ta tb : TE} {fc : FT} {f g : FE} (hc : SimT K pv E c fc) (a : SimE K pv E ta f) (b : SimE K pv E tb g) : SimE K pv E (tIf c ta tb) (ifF fc f g) := fun H φ S F O η σ Q w hO re h => by
  refine hc H φ S F O η σ _ w hO re (h.bind.imp fun d φ1 S1 H1 e1 w1 h1 => ?_)
  cases d with
  | true => exact a H1 φ1 S1 F O η σ _ w1 hO (re.mono w hO e1) h1
  | false => exact b H1 φ1 S1 F O η σ _ w1 hO (re.mono w hO e1) h1
theorem sa_nil : SimA K pv E tNil nilA := fun H φ S F O η σ Q w hO re h => h.ok w _ .nil
theorem sa_cons {ta : TE} {t : TA} {f : FE} {g : FA} (a : SimE K pv E ta f) (b : SimA K pv E t g) : SimA K pv E (tCons ta t) (consA f g) := fun H φ S F O η σ Q w hO re h => by
  refine a H φ S F O η σ _ w hO re (h.bind.imp fun p φ1 S1 H1 e1 w1 h1 x rx => ?_)
  refine b H1 φ1 S1 F O η σ _ w1 hO (re.mono w hO e1) (h1.bind.imp fun ps φ2 S2 H2 e2 w2 h2 xs rs => ?_)
  exact h2.ok w2 _ (.cons (e2.rv rx) rs)
theorem sab_nil : SimAB K pv E tNil nilA := fun H φ S F O η σ Q w hO re h => h.ok w _ trivial
theorem sab_cons {ta : TE} {t : TA} {f : FE} {g : FA} (a : SimB K pv E ta f) (b : SimAB K pv E t g) : SimAB K pv E (tCons ta t) (consA f g) := fun H φ S F O η σ Q w hO re h => by
  refine a H φ S F O η σ _ w hO re (h.bind.imp fun p φ1 S1 H1 e1 w1 h1 x rx => ?_)
  refine b H1 φ1 S1 F O η σ _ w1 hO (re.mono w hO e1) (h1.bind.imp fun ps φ2 S2 H2 e2 w2 h2 xs rs => ?_)
  exact h2.ok w2 _ ⟨rx.mono w1 hO e2, rs⟩
theorem se_tup {t : TA} {f : FA} (a : SimA K pv E t f) : SimE K pv E (tTup t) (tupF f) := fun H φ S F O η σ Q w hO re h => by
  refine a H φ S F O η σ _ w hO re (h.bind.imp fun ps φ1 S1 H1 e1 w1 h1 xs rs => ?_)
  split at h1
  · rename_i hl
    refine ⟨million (by rw [rs.len]; exact hl), fun p hp => ?_⟩
    exact h1.new w1 hp _ (.newTup w1 hp rs)
  · exact h1.elim
theorem se_lst {t : TA} {f : FA} (a : SimA K pv E t f) : SimE K pv E (tLst t) (lstF f) := fun H φ S F O η σ Q w hO re h => by
  refine a H φ S F O η σ _ w hO re (h.bind.imp fun ps φ1 S1 H1 e1 w1 h1 xs rs => ?_)
  split at h1
  · rename_i hl
    refine ⟨million (by rw [rs.len]; exact hl), fun p hp => ?_⟩
    exact h1.new w1 hp _ (.newLst w1 hp rs)
  · exact h1.elim
theorem so_none : SimO K pv E tNoPart noneO := fun H φ S F O η σ Q w hO re h => h.ok w
theorem so_some {ta : TE} {f : FE} (a : SimB K pv E ta f) : SimO K pv E (tPart ta) (someO f) := fun H φ S F O η σ Q w hO re h => by
  refine a H φ S F O η σ _ w hO re (h.bind.imp fun p φ1 S1 H1 e1 w1 h1 x rx => ?_)
  split at h1
  · rename_i i
    rcases rx with r | ⟨_, _, _, z, _⟩
    · cases r
      exact ⟨i, rfl, h1.ok w1⟩
    · cases z
  · exact h1.elim
theorem se_sl {r : V → Option Int → Option Int → Hp → VK → Prop} {g : PV → Option Int → Option Int → AS → R PV} {ta : TE} {tl th : TO} {fa : FE} {fl fh : FO} (hr : SimSl K r g) (ha : SimB K pv E ta fa) (hl : SimO K pv E tl fl) (hh : SimO K pv E th fh) : SimE K pv E (tSl r ta tl th) (slF g fa fl fh) := fun H φ S F O η σ Q w hO re h => by
  refine ha H φ S F O η σ _ w hO re (h.bind.imp fun p φ1 S1 H1 e1 w1 h1 x rx => ?_)
  refine hl H1 φ1 S1 F O η σ _ w1 hO (re.mono w hO e1) (h1.bind.imp fun l φ2 S2 H2 e2 w2 h2 => ?_)
  refine hh H2 φ2 S2 F O η σ _ w2 hO ((re.mono w hO e1).mono w1 hO e2) (h2.bind.imp fun u φ3 S3 H3 e3 w3 h3 => ?_)
  exact hr H3 φ3 S3 F O p x l u Q w3 hO ((rx.mono w1 hO e2).mono w2 hO e3) (pureR_go h3)
end
end Fu

end
section
set_option Elab.async false
set_option linter.all false
set_option maxRecDepth 100000
set_option maxHeartbeats 4000000
namespace Fu
open PySem PySem.Spec PyProof.Rows L2
open He (ga)
/-! ### statements -/
inductive RF where
  | nx (η : Sls) (S : AS) | rt (p : PV) (S : AS) | bk (η : Sls) (S : AS) | ct (η : Sls) (S : AS) | exc (c : Str) (fs : List (Str × PV)) (η : Sls) (S : AS) | stuck
abbrev FS := Sls → AS → RF
/-- the lists that slots hold alone -/
def Own (η : Sls) (σ : L2.St) : Addr → Prop := fun a => ∃ (i : Nat) (xs : List PV), η[i]? = some (.own xs) ∧ σ[i]? = some (some (.ref a))
structure WS (K : PySem.W.Frag) (pv : V × Option Addr) (H : Hp) (φ : List Addr) (S : AS) (F : Addr → Prop) (η : Sls) (σ : L2.St) : Prop where
  wf : WF K H φ S (uni F (Own η σ))
  re : RE K pv H φ (uni (Lv φ S) (uni F (Own η σ))) (Own η σ) η σ
  inj : ∀ (i j : Nat) xs ys a, η[i]? = some (.own xs) → η[j]? = some (.own ys) → σ[i]? = some (some (.ref a)) → σ[j]? = some (some (.ref a)) → i = j
  dis : ∀ a, F a → ¬ Own η σ a
abbrev EvS (H : Hp) (φ : List Addr) (S : AS) (η : Sls) (σ : L2.St) (H' : Hp) (φ' : List Addr) (S' : AS) (η' : Sls) (σ' : L2.St) : Prop := Ev H φ (uni (Lv φ S) (Own η σ)) H' φ' (uni (Lv φ' S') (Own η' σ'))
def GoS (K : PySem.W.Frag) (pv : V × Option Addr) (E : XW) (F : Addr → Prop) (H : Hp) (φ : List Addr) (S : AS) (η : Sls) (σ : L2.St) (r : RF) (D : Ends) : Prop := match r with
  | .nx η' S' => ∀ φ' H' σ', EvS H φ S η σ H' φ' S' η' σ' → WS K pv H' φ' S' F η' σ' → D.nx σ' H'
  | .rt p S' => ∀ φ' H' v, Ev H φ (uni (Lv φ S) (Own η σ)) H' φ' (Lv φ' S') → WF K H' φ' S' F → RV K H' φ' (uni (Lv φ' S') F) p v → D.rt v H'
  | .bk η' S' => ∀ φ' H' σ', EvS H φ S η σ H' φ' S' η' σ' → WS K pv H' φ' S' F η' σ' → D.bk σ' H'
  | .ct η' S' => ∀ φ' H' σ', EvS H φ S η σ H' φ' S' η' σ' → WS K pv H' φ' S' F η' σ' → D.ct σ' H'
  | .exc c fs η' S' => ∀ φ' H' d σ', EvS H φ S η σ H' φ' S' η' σ' → WS K pv H' φ' S' F η' σ' → RX K H' φ' (uni (Lv φ' S') (uni F (Own η' σ'))) fs d → E σ' (.ref (ga K c)) d H'
  | .stuck => False
def SimS (K : PySem.W.Frag) (pv : V × Option Addr) (E : XW) (t : TS) (f : FS) : Prop := ∀ (H : Hp) (φ : List Addr) (S : AS) (F : Addr → Prop) (η : Sls) (σ : L2.St) (D : Ends), WS K pv H φ S F η σ → GoS K pv E F H φ S η σ (f η S) D → t D σ H
/-- an expression's outcome, within a statement -/
def lift {α : Type} (r : R α) (η : Sls) (k : α → AS → RF) : RF := match r with
  | .ok a S => k a S
  | .exc c fs S => .exc c fs η S
  | .stuck => .stuck
@[simp] theorem lift_ok {α : Type} {a : α} {S : AS} {η : Sls} {k : α → AS → RF} : lift (R.ok a S) η k = k a S := rfl
@[simp] theorem lift_exc {α : Type} {c : Str} {fs : List (Str × PV)} {S : AS} {η : Sls} {k : α → AS → RF} : lift (R.exc c fs S : R α) η k = .exc c fs η S := rfl
@[simp] theorem lift_stuck {α : Type} {η : Sls} {k : α → AS → RF} : lift (R.stuck : R α) η k = .stuck := rfl
section
variable {K : PySem.W.Frag} {pv : V × Option Addr} {E : XW} {F : Addr → Prop} {H H' H1 : Hp} {φ φ' φ1 : List Addr} {S S' S1 : AS} {α : Type} {η η' η1 : Sls} {σ σ' σ1 : L2.St} {D : Ends}
theorem EvS.of (e : Ev H φ (Lv φ S) H1 φ1 (Lv φ1 S1)) : EvS H φ S η σ H1 φ1 S1 η σ := ⟨e.stay, fun a h m => by
  obtain ⟨e1, m1⟩ := e.keep a h fun z => m (.inl z)
  exact ⟨e1, fun z => z.elim m1 fun z => m (.inr z)⟩, e.pre⟩
theorem WS.step (w : WS K pv H φ S F η σ) (e : Ev H φ (Lv φ S) H1 φ1 (Lv φ1 S1)) (f : WF K H1 φ1 S1 (uni F (Own η σ))) : WS K pv H1 φ1 S1 F η σ := ⟨f, w.re.mono w.wf (fun _ z => .inr z) e, w.inj, w.dis⟩
theorem GoS.step {r : RF} (g : GoS K pv E F H φ S η σ r D) (e : EvS H φ S η σ H1 φ1 S1 η1 σ1) : GoS K pv E F H1 φ1 S1 η1 σ1 r D := by
  cases r with
  | nx η' S' => exact fun φ' H' σ' e' w => g φ' H' σ' (e.trans e') w
  | rt p S' => exact fun φ' H' v e' w r => g φ' H' v (e.trans e') w r
  | bk η' S' => exact fun φ' H' σ' e' w => g φ' H' σ' (e.trans e') w
  | ct η' S' => exact fun φ' H' σ' e' w => g φ' H' σ' (e.trans e') w
  | exc c fs η' S' => exact fun φ' H' d σ' e' w x => g φ' H' d σ' (e.trans e') w x
  | stuck => exact g
theorem GoS.lift0 {r : R α} {k : α → AS → RF} (w : WS K pv H φ S F η σ) (g : GoS K pv E F H φ S η σ (lift r η k) D) : GoE K (E σ) (uni F (Own η σ)) H φ S r fun a φ1 S1 H1 => GoS K pv E F H φ S η σ (k a S1) D ∧ WS K pv H1 φ1 S1 F η σ := by
  cases r with
  | ok a S1 => exact fun φ1 H1 e f => ⟨g, w.step e f⟩
  | exc c fs S1 => exact fun φ1 H1 d e f x => g φ1 H1 d σ (EvS.of e) (w.step e f) x
  | stuck => exact g
theorem GoS.lift {r : R α} {k : α → AS → RF} (w : WS K pv H φ S F η σ) (g : GoS K pv E F H φ S η σ (lift r η k) D) : GoE K (E σ) (uni F (Own η σ)) H φ S r fun a φ1 S1 H1 => GoS K pv E F H1 φ1 S1 η σ (k a S1) D ∧ WS K pv H1 φ1 S1 F η σ := by
  cases r with
  | ok a S1 => exact fun φ1 H1 e f => ⟨GoS.step (r := k a S1) g (EvS.of e), w.step e f⟩
  | exc c fs S1 => exact fun φ1 H1 d e f x => g φ1 H1 d σ (EvS.of e) (w.step e f) x
  | stuck => exact g
theorem WF.less {F' : Addr → Prop} (w : WF K H φ S F) (h : ∀ a, F' a → F a) : WF K H φ S F' where
  len := w.len
  live := fun n o e => let ⟨a, ho, e1, e2, r⟩ := w.live n o e; ⟨a, ho, e1, e2, r.mono (fun a _ m => ⟨rfl, fun z => m (z.imp id (h a))⟩) fun _ _ h => h⟩
  inj := w.inj
  away := fun a z => w.away a (h a z)
theorem RV.less {M M' : Addr → Prop} (h : ∀ a, M' a → M a) {p : PV} {v : V} (r : RV K H φ M p v) : RV K H φ M' p v := r.mono (fun a _ m => ⟨rfl, fun z => m (h a z)⟩) fun _ _ h => h
theorem RVs.less {M M' : Addr → Prop} (h : ∀ a, M' a → M a) {p : List PV} {v : List V} (r : RVs K H φ M p v) : RVs K H φ M' p v := r.mono (fun a _ m => ⟨rfl, fun z => m (h a z)⟩) fun _ _ h => h
theorem WS.here (w : WS K pv H φ S F η σ) (g : GoS K pv E F H φ S η σ (.nx η S) D) : D.nx σ H := g φ H σ Ev.refl w
/-- a slot's value stored -/
theorem own_set {i : Nat} {p : PV} {v : V} {a : Addr} (h : Own (η.set i (.val p)) (σ.set i (some v)) a) : Own η σ a := by
  obtain ⟨j, xs, h1, h2⟩ := h
  by_cases e : i = j
  · subst e
    rw [List.getElem?_set] at h1
    split at h1
    · split at h1 <;> cases h1
    · exact absurd rfl ‹_›
  · rw [List.getElem?_set_ne e] at h1 h2
    exact ⟨j, xs, h1, h2⟩
theorem uni_imp {A B B' : Addr → Prop} (h : ∀ a, B' a → B a) : ∀ a, uni A B' a → uni A B a := fun a z => z.imp id (h a)
theorem WS.set {i : Nat} {p : PV} {v : V} (w : WS K pv H φ S F η σ) (r : RV K H φ (uni (Lv φ S) (uni F (Own η σ))) p v) : WS K pv H φ S F (η.set i (.val p)) (σ.set i (some v)) where
  wf := w.wf.less (uni_imp fun a => own_set)
  re := by
    have hm : ∀ a, uni (Lv φ S) (uni F (Own (η.set i (.val p)) (σ.set i (some v)))) a → uni (Lv φ S) (uni F (Own η σ)) a := uni_imp (uni_imp fun a => own_set)
    refine ⟨by rw [List.length_set, List.length_set]; exact w.re.len, fun j q h => ?_, fun j xs h => ?_, pin_set nofun (fun _ r => r.less hm) w.re.pin⟩
    · by_cases e : i = j
      · subst e
        rw [List.getElem?_set] at h
        split at h
        · split at h
          · cases h
            rename_i hi
            exact ⟨v, by rw [List.getElem?_set, if_pos rfl, if_pos (by rw [w.re.len]; exact hi)], r.less hm⟩
          · cases h
        · exact absurd rfl ‹_›
      · rw [List.getElem?_set_ne e] at h ⊢
        obtain ⟨u, h1, h2⟩ := w.re.val j q h
        exact ⟨u, h1, h2.less hm⟩
    · by_cases e : i = j
      · subst e
        rw [List.getElem?_set] at h
        split at h
        · split at h <;> cases h
        · exact absurd rfl ‹_›
      · have h0 := h
        rw [List.getElem?_set_ne e] at h ⊢
        obtain ⟨a, vs, h1, h2, h3, h4⟩ := w.re.own j xs h
        exact ⟨a, vs, h1, h2, h3.less hm, ⟨j, xs, h0, by rw [List.getElem?_set_ne e]; exact h1⟩⟩
  inj := fun j k xs ys a h1 h2 h3 h4 => by
    have z : ∀ {l : Nat} {zs : List PV}, (η.set i (.val p))[l]? = some (.own zs) → i ≠ l := fun h e => by
      subst e
      rw [List.getElem?_set] at h
      split at h
      · split at h <;> cases h
      · exact absurd rfl ‹_›
    rw [List.getElem?_set_ne (z h1)] at h3
    rw [List.getElem?_set_ne (z h2)] at h4
    have h1' := h1
    have h2' := h2
    rw [List.getElem?_set_ne (z h1)] at h1'
    rw [List.getElem?_set_ne (z h2)] at h2'
    exact w.inj j k xs ys a h1' h2' h3 h4
  dis := fun a h z => w.dis a h (own_set z)
theorem EvS.set {i : Nat} {p : PV} {v : V} : EvS H φ S η σ H φ S (η.set i (.val p)) (σ.set i (some v)) := ⟨fun _ h => h, fun a h m => ⟨rfl, fun z => m (uni_imp (fun a => own_set) a z)⟩, fun _ _ h => h⟩
end
/-! ### targets -/
abbrev FG := PV → Sls → AS → RF
def SimG (K : PySem.W.Frag) (pv : V × Option Addr) (g : TG) (f : FG) : Prop := ∀ (H : Hp) (φ : List Addr) (S : AS) (F : Addr → Prop) (η : Sls) (σ : L2.St) (p : PV) (v : V) (Q : L2.St → Hp → Prop), WS K pv H φ S F η σ → RV K H φ (uni (Lv φ S) (uni F (Own η σ))) p v →
  GoS K pv (fun _ _ _ _ => False) F H φ S η σ (f p η S) { nx := Q, rt := fun _ _ => False } → g v σ H Q
def SimGs (K : PySem.W.Frag) (pv : V × Option Addr) (g : TGs) (f : List PV → Sls → AS → RF) : Prop := ∀ (H : Hp) (φ : List Addr) (S : AS) (F : Addr → Prop) (η : Sls) (σ : L2.St) (p : List PV) (v : List V) (Q : L2.St → Hp → Prop), WS K pv H φ S F η σ → RVs K H φ (uni (Lv φ S) (uni F (Own η σ))) p v →
  GoS K pv (fun _ _ _ _ => False) F H φ S η σ (f p η S) { nx := Q, rt := fun _ _ => False } → g v σ H Q
/-- only the going on -/
def onlyNx (r : RF) (k : Sls → AS → RF) : RF := match r with
  | .nx η S => k η S
  | _ => .stuck
@[simp] theorem onlyNx_nx {η : Sls} {S : AS} {k : Sls → AS → RF} : onlyNx (.nx η S) k = k η S := rfl
def nameG (i : Nat) : FG := fun p η S => .nx (η.set i (.val p)) S
def nilG : List PV → Sls → AS → RF := fun ps η S => match ps with
  | [] => .nx η S
  | _ => .stuck
def consG (g : FG) (r : List PV → Sls → AS → RF) : List PV → Sls → AS → RF := fun ps η S => match ps with
  | p :: ps => onlyNx (g p η S) fun η S => r ps η S
  | _ => .stuck
def tupG (n : Nat) (g : List PV → Sls → AS → RF) : FG := fun p η S => match p with
  | .tup ps => if ps.length = n then g ps η S else .stuck
  | .ktu ps => if ps.length = n then g ps η S else .stuck
  | _ => .stuck
/-! ### the functions of statements -/
def nextS : FS := fun η S => .nx η S
def stuckS : FS := fun _ _ => .stuck
def seqS (f g : FS) : FS := fun η S => match f η S with
  | .nx η S => g η S
  | r => r
@[simp] theorem seqS_nx {f g : FS} {η η' : Sls} {S S' : AS} (h : f η S = .nx η' S') : seqS f g η S = g η' S' := by unfold seqS; rw [h]
def asgS (f : FE) (g : FG) : FS := fun η S => lift (f η S) η fun p S => onlyNx (g p η S) fun η S => .nx η S
def ifS (c : FT) (f g : FS) : FS := fun η S => lift (c η S) η fun b S => if b = true then f η S else g η S
def retS (f : FE) : FS := fun η S => lift (f η S) η fun p S => .rt p S
def retN : FS := fun _ S => .rt .non S
def exprS (f : FE) : FS := fun η S => lift (f η S) η fun _ S => .nx η S
def breakS : FS := fun η S => .bk η S
def contS : FS := fun η S => .ct η S
def forL (g : FG) (b : FS) : List PV → Sls → AS → RF
  | [], η, S => .nx η S
  | p :: ps, η, S => onlyNx (g p η S) fun η1 S1 => match b η1 S1 with
    | .nx η2 S2 => forL g b ps η2 S2
    | .ct η2 S2 => forL g b ps η2 S2
    | .bk η2 S2 => .nx η2 S2
    | r => r
abbrev FI := Sls → AS → R (List PV)
def forS (fi : FI) (g : FG) (b : FS) : FS := fun η S => lift (fi η S) η fun ps S => forL g b ps η S
/-- an iterator that gives these values, whatever comes in between -/
def Walks (K : PySem.W.Frag) (J : It) (ps : List PV) (H : Hp) (φ : List Addr) (M : Addr → Prop) : Prop := ∀ (H' : Hp) (φ' : List Addr) (M' : Addr → Prop), (∀ a, H a ≠ none → ¬ M a → H' a = H a ∧ ¬ M' a) → (∀ (n : Nat) a, φ[n]? = some a → φ'[n]? = some a) →
  (∀ a, M' a → H' a ≠ none) → (∀ (i : Nat) p, ps[i]? = some p → J.go i H' ∧ ∀ x H3, J.yld i H' x H3 → (∀ a, H' a ≠ none → H3 a = H' a) ∧ RV K H3 φ' M' p x) ∧ J.stop ps.length H'
def SimI (K : PySem.W.Frag) (pv : V × Option Addr) (E : XW) (t : TI) (f : FI) : Prop := ∀ (H : Hp) (φ : List Addr) (S : AS) (F O : Addr → Prop) (η : Sls) (σ : L2.St) (R : It → Hp → Prop), WF K H φ S F → (∀ a, O a → F a) → RE K pv H φ (uni (Lv φ S) F) O η σ →
  GoE K (E σ) F H φ S (f η S) (fun ps φ' S' H' => ∀ J, Walks K J ps H' φ' (uni (Lv φ' S') F) → R J H') → t σ H R
section
variable {K : PySem.W.Frag} {pv : V × Option Addr} {E : XW}
theorem sg_name {i : Nat} : SimG K pv (gName i) (nameG i) := fun H φ S F η σ p v Q w r g => g φ H _ EvS.set (w.set r)
theorem sgs_nil : SimGs K pv gNil nilG := fun H φ S F η σ ps vs Q w r g => by
  cases r with
  | nil => exact ⟨rfl, w.here g⟩
  | cons _ _ => exact (show False from g).elim
theorem onlyNx_go {F : Addr → Prop} {H : Hp} {φ : List Addr} {S : AS} {η : Sls} {σ : L2.St} {r : RF} {k : Sls → AS → RF} {D : Ends} (g : GoS K pv E F H φ S η σ (onlyNx r k) D) : ∃ η' S', r = .nx η' S' ∧ GoS K pv E F H φ S η σ (k η' S') D := by
  cases r with
  | nx η' S' => exact ⟨η', S', rfl, g⟩
  | _ => exact (show False from g).elim
theorem RVs.more {F : Addr → Prop} {H H' : Hp} {φ φ' : List Addr} {S S' : AS} {η η' : Sls} {σ σ' : L2.St} (e : EvS H φ S η σ H' φ' S' η' σ') {p : List PV} {v : List V} (r : RVs K H φ (uni (Lv φ S) (uni F (Own η σ))) p v) : RVs K H' φ' (uni (Lv φ' S') (uni F (Own η' σ'))) p v :=
  r.mono (fun a h m => by
    obtain ⟨e1, m1⟩ := e.keep a h fun z => m (z.imp id .inr)
    exact ⟨e1, fun z => z.elim (fun z => m1 (.inl z)) fun z => z.elim (fun z => m (.inr (.inl z))) fun z => m1 (.inr z)⟩) e.pre
theorem RV.more {F : Addr → Prop} {H H' : Hp} {φ φ' : List Addr} {S S' : AS} {η η' : Sls} {σ σ' : L2.St} (e : EvS H φ S η σ H' φ' S' η' σ') {p : PV} {v : V} (r : RV K H φ (uni (Lv φ S) (uni F (Own η σ))) p v) : RV K H' φ' (uni (Lv φ' S') (uni F (Own η' σ'))) p v :=
  r.mono (fun a h m => by
    obtain ⟨e1, m1⟩ := e.keep a h fun z => m (z.imp id .inr)
    exact ⟨e1, fun z => z.elim (fun z => m1 (.inl z)) fun z => z.elim (fun z => m (.inr (.inl z))) fun z => m1 (.inr z)⟩) e.pre
theorem sgs_cons {t : TG} {u : TGs} {f : FG} {g : List PV → Sls → AS → RF} (a : SimG K pv t f) (b : SimGs K pv u g) : SimGs K pv (gCons t u) (consG f g) := fun H φ S F η σ ps vs Q w r h => by
  cases r with
  | nil => exact (show False from h).elim
  | @cons p ps v vs r rs =>
    refine ⟨v, vs, rfl, a H φ S F η σ p v _ w r ?_⟩
    obtain ⟨η', S', e, h'⟩ := onlyNx_go h
    rw [e]
    intro φ' H' σ' e' w'
    exact b H' φ' S' F η' σ' ps vs Q w' (rs.more e') (GoS.step h' e')
theorem sg_tup {t : TGs} {n : Nat} {g : List PV → Sls → AS → RF} (a : SimGs K pv t g) : SimG K pv (gTup K n t) (tupG n g) := fun H φ S F η σ p v Q w r h => by
  unfold tupG at h
  split at h
  · rename_i ps
    split at h
    · rename_i hl
      cases r with
      | tup hv rs => exact ⟨_, _, rfl, hv.sq, by rw [rs.len]; exact hl, a H φ S F η σ _ _ Q w rs h⟩
    · exact h.elim
  · rename_i ps
    split at h
    · rename_i hl
      cases r with
      | ktu hv rs => exact ⟨_, _, rfl, hv.sq, by rw [rs.len]; exact hl, a H φ S F η σ _ _ Q w rs h⟩
    · exact h.elim
  · exact h.elim
theorem ss_next : SimS K pv E tNext nextS := fun H φ S F η σ D w g => w.here g
theorem ss_never : SimS K pv E tNever stuckS := fun H φ S F η σ D w g => g
theorem ss_break : SimS K pv E tBreak breakS := fun H φ S F η σ D w g => g φ H σ Ev.refl w
theorem ss_cont : SimS K pv E tCont contS := fun H φ S F η σ D w g => g φ H σ Ev.refl w
theorem ss_seq {t u : TS} {f g : FS} (a : SimS K pv E t f) (b : SimS K pv E u g) : SimS K pv E (tSeq t u) (seqS f g) := fun H φ S F η σ D w h => by
  refine a H φ S F η σ _ w ?_
  unfold seqS at h
  cases q : f η S with
  | nx η' S' =>
    rw [q] at h
    exact fun φ' H' σ' e' w' => b H' φ' S' F η' σ' D w' (GoS.step h e')
  | rt p S' => rw [q] at h; exact h
  | bk η' S' => rw [q] at h; exact h
  | ct η' S' => rw [q] at h; exact h
  | exc c fs η' S' => rw [q] at h; exact h
  | stuck => rw [q] at h; exact h
theorem ss_asg {te : TE} {g : TG} {f : FE} {fg : FG} (a : SimE K pv E te f) (b : SimG K pv g fg) : SimS K pv E (tAsg te g) (asgS f fg) := fun H φ S F η σ D w h => by
  refine a H φ S _ _ η σ _ w.wf (fun _ z => .inr z) w.re ((GoS.lift w h).imp fun p φ1 S1 H1 e1 w1 h1 v rv => ?_)
  obtain ⟨h1, w2⟩ := h1
  obtain ⟨η', S', e, h'⟩ := onlyNx_go h1
  refine b H1 φ1 S1 F η σ p v _ w2 rv ?_
  rw [e]
  exact h'
theorem ss_if {c : TT} {t u : TS} {fc : FT} {f g : FS} (hc : SimT K pv E c fc) (a : SimS K pv E t f) (b : SimS K pv E u g) : SimS K pv E (tIfS c t u) (ifS fc f g) := fun H φ S F η σ D w h => by
  refine hc H φ S _ _ η σ _ w.wf (fun _ z => .inr z) w.re ((GoS.lift w h).imp fun d φ1 S1 H1 e1 w1 h1 => ?_)
  obtain ⟨h1, w2⟩ := h1
  cases d with
  | true => exact a H1 φ1 S1 F η σ D w2 h1
  | false => exact b H1 φ1 S1 F η σ D w2 h1
theorem WS.out {H : Hp} {φ : List Addr} {S : AS} {F : Addr → Prop} {η : Sls} {σ : L2.St} (w : WS K pv H φ S F η σ) : WF K H φ S F := w.wf.less fun a z => .inl z
theorem ss_ret {te : TE} {f : FE} (a : SimB K pv E te f) : SimS K pv E (tRet te) (retS f) := fun H φ S F η σ D w h => by
  refine a H φ S _ _ η σ _ w.wf (fun _ z => .inr z) w.re ((GoS.lift w h).imp fun p φ1 S1 H1 e1 w1 h1 v rv => ?_)
  obtain ⟨h1, w2⟩ := h1
  refine h1 φ1 H1 v ⟨fun _ h => h, fun a h m => ⟨rfl, fun z => m (.inl z)⟩, fun _ _ h => h⟩ w2.out ?_
  have hm : ∀ a, uni (Lv φ1 S1) F a → uni (Lv φ1 S1) (uni F (Own η σ)) a := fun a z => z.imp id .inl
  rcases rv with rv | ⟨a, xs, vs, rfl, rfl, h3, h4, h5⟩
  · exact rv.less hm
  · refine .lst ⟨h3, fun z => ?_⟩ (h5.less hm)
    have h6 := (w2.wf.away a (.inr h4)).2
    exact z.elim h6 fun z => w.dis a z h4
theorem ss_retN : SimS K pv E tRetN retN := fun H φ S F η σ D w h => h φ H .non ⟨fun _ h => h, fun a h m => ⟨rfl, fun z => m (.inl z)⟩, fun _ _ h => h⟩ w.out .non
theorem ss_expr {te : TE} {f : FE} (a : SimB K pv E te f) : SimS K pv E (tDrop te) (exprS f) := fun H φ S F η σ D w h => by
  refine a H φ S _ _ η σ _ w.wf (fun _ z => .inr z) w.re ((GoS.lift w h).imp fun p φ1 S1 H1 e1 w1 h1 v rv => ?_)
  exact h1.2.here h1.1
end
end Fu

end
section
set_option Elab.async false
set_option linter.all false
set_option maxRecDepth 100000
set_option maxHeartbeats 4000000
namespace Fu
open PySem PySem.Spec PyProof.Rows L2
open He (ga)
section
variable {K : PySem.W.Frag} {pv : V × Option Addr} {E : XW} {F O : Addr → Prop} {H H' H1 H3 : Hp} {φ φ' φ1 : List Addr} {S S' S1 : AS} {η η' η1 : Sls} {σ σ' σ1 : L2.St} {D : Ends}
/-- new things alone -/
theorem ev_ext {M : Addr → Prop} (x : ∀ a, H a ≠ none → H3 a = H a) : Ev H φ M H3 φ M := ⟨fun a h => by rw [x a h]; exact h, fun a h m => ⟨x a h, m⟩, fun _ _ h => h⟩
theorem WF.ext (w : WF K H φ S F) (x : ∀ a, H a ≠ none → H3 a = H a) : WF K H3 φ S F where
  len := w.len
  live := fun n u e => by
    obtain ⟨a, ho, e1, e2, r⟩ := w.live n u e
    exact ⟨a, ho, e1, (x a (by rw [e2]; nofun)).trans e2, r.mono (ev_ext (M := uni (Lv φ S) F) (φ := φ) x).keep fun _ _ h => h⟩
  inj := w.inj
  away := fun a h => by
    obtain ⟨h1, h2⟩ := w.away a h
    exact ⟨by rw [x a h1]; exact h1, h2⟩
theorem lv_some (w : WF K H φ S F) {a : Addr} (h : Lv φ S a) : H a ≠ none := by
  obtain ⟨n, o, e1, e2⟩ := h
  obtain ⟨b, ho, e3, e4, _⟩ := w.live n o e1
  rw [e2] at e3
  cases e3
  rw [e4]
  nofun
theorem ss_for {wi : TI} {g : TG} {tb : TS} {fi : FI} {fg : FG} {fb : FS} (hi : SimI K pv E wi fi) (hg : SimG K pv g fg) (hb : SimS K pv E tb fb) : SimS K pv E (tFor wi g tb) (forS fi fg fb) := fun H φ S F η σ D w h => by
  refine hi H φ S _ _ η σ _ w.wf (fun _ z => .inr z) w.re ((GoS.lift w h).imp fun ps φ1 S1 H1 e1 w1 h1 J hJ => ?_)
  obtain ⟨h1, w2⟩ := h1
  refine ⟨fun i m σ' H' => m = ps.length - i ∧ i ≤ ps.length ∧ ∃ φ' S' η', EvS H1 φ1 S1 η σ H' φ' S' η' σ' ∧ WS K pv H' φ' S' F η' σ' ∧ GoS K pv E F H' φ' S' η' σ' (forL fg fb (ps.drop i) η' S') D, ⟨_, rfl, Nat.zero_le _, φ1, S1, η, Ev.refl, w2, h1⟩, ?_⟩
  rintro i m σ' H' ⟨rfl, hi, φ', S', η', ev, ws, go⟩
  have hw := hJ H' φ' (uni (Lv φ' S') (uni F (Own η' σ'))) (fun a h m => by
    obtain ⟨e1, m1⟩ := ev.keep a h fun z => m (z.imp id .inr)
    exact ⟨e1, fun z => z.elim (fun z => m1 (.inl z)) fun z => z.elim (fun z => m (.inr (.inl z))) fun z => m1 (.inr z)⟩) ev.pre (fun a z => z.elim (lv_some ws.wf) fun z => (ws.wf.away a z).1)
  by_cases hlt : i < ps.length
  · have e : ps[i]? = some ps[i] := List.getElem?_eq_getElem hlt
    obtain ⟨hgo, hy⟩ := hw.1 i _ e
    rw [List.drop_eq_getElem_cons hlt] at go
    refine .inr ⟨hgo, fun σ2 H2 => ∃ φ2 S2 η2, EvS H1 φ1 S1 η σ H2 φ2 S2 η2 σ2 ∧ WS K pv H2 φ2 S2 F η2 σ2 ∧ GoS K pv E F H2 φ2 S2 η2 σ2 (forL fg fb (ps.drop (i + 1)) η2 S2) D, fun σ2 H2 ⟨φ2, S2, η2, a, b, c⟩ => ⟨_, by omega, rfl, hlt, φ2, S2, η2, a, b, c⟩, fun x H3 hx => ?_⟩
    obtain ⟨ext, rv⟩ := hy x H3 hx
    have e3 : EvS H' φ' S' η' σ' H3 φ' S' η' σ' := ev_ext ext
    have ws3 : WS K pv H3 φ' S' F η' σ' := ws.step (ev_ext ext) (ws.wf.ext ext)
    obtain ⟨η4, S4, e4, go4⟩ := onlyNx_go go
    refine hg H3 φ' S' F η' σ' _ x _ ws3 rv ?_
    rw [e4]
    intro φ5 H5 σ5 ev5 ws5
    have ev6 := (ev.trans e3).trans ev5
    have go5 := GoS.step go4 (e3.trans ev5)
    refine hb H5 φ5 S4 F η4 σ5 _ ws5 ?_
    cases q : fb η4 S4 with
    | nx η7 S7 =>
      rw [q] at go5
      exact fun φ7 H7 σ7 ev7 ws7 => ⟨φ7, S7, η7, ev6.trans ev7, ws7, GoS.step go5 ev7⟩
    | ct η7 S7 =>
      rw [q] at go5
      exact fun φ7 H7 σ7 ev7 ws7 => ⟨φ7, S7, η7, ev6.trans ev7, ws7, GoS.step go5 ev7⟩
    | bk η7 S7 => rw [q] at go5; exact go5
    | rt p S7 => rw [q] at go5; exact go5
    | exc c fs η7 S7 => rw [q] at go5; exact go5
    | stuck => rw [q] at go5; exact go5
  · have e : i = ps.length := by omega
    subst e
    rw [List.drop_length] at go
    exact .inl ⟨hw.2, ws.here go⟩
end
/-! ### new lists -/
abbrev FN := Sls → AS → R (List PV)
abbrev at1 (p : Addr) : Addr → Prop := fun a => a = p
def SimN (K : PySem.W.Frag) (pv : V × Option Addr) (E : XW) (t : TE) (f : FN) : Prop := ∀ (H : Hp) (φ : List Addr) (S : AS) (F O : Addr → Prop) (η : Sls) (σ : L2.St) (Q : VK), WF K H φ S F → (∀ a, O a → F a) → RE K pv H φ (uni (Lv φ S) F) O η σ →
  GoE K (E σ) F H φ S (f η S) (fun xs φ' S' H' => ∀ p vs, H p = none → WF K H' φ' S' (uni F (at1 p)) → H' p = some (.lst vs) → RVs K H' φ' (uni (Lv φ' S') (uni F (at1 p))) xs vs → Q (.ref p) H') → t σ H Q
def valN (f : FN) : FE := fun η S => (f η S).bind fun xs S => .ok (.lst xs) S
section
variable {K : PySem.W.Frag} {pv : V × Option Addr} {E : XW} {F O : Addr → Prop} {H H' H1 H3 : Hp} {φ φ' φ1 : List Addr} {S S' S1 : AS} {η η' η1 : Sls} {σ σ' σ1 : L2.St} {D : Ends}
theorem at1_less {a p : Addr} : ∀ {M : Addr → Prop}, uni M F a → uni M (uni F (at1 p)) a := fun z => z.imp id .inl
theorem SimN.e {t : TE} {f : FN} (s : SimN K pv E t f) : SimE K pv E t (valN f) := fun H φ S F O η σ Q w hO re h => by
  refine s H φ S F O η σ Q w hO re (h.bind.imp fun xs φ1 S1 H1 e1 w1 h1 p vs hp w2 hl r => ?_)
  refine h1.ok w1 _ (.lst ⟨hl, fun z => z.elim (w2.away p (.inr rfl)).2 (f_none w hp)⟩ (r.less fun a z => at1_less z))
/-- a new list laid at the end -/
theorem GoE.lay {E' : XK} {xs : List PV} {Q : VK} {vs : List V} {H0 : Hp} (w : WF K H φ S F) (r : RVs K H φ (uni (Lv φ S) F) xs vs) {p : Addr} (hp : H p = none) (st : ∀ a, H0 a ≠ none → H a ≠ none)
    (h : ∀ φ' H', Ev H φ (Lv φ S) H' φ' (Lv φ' S) → WF K H' φ' S F → ∀ p vs, H0 p = none → WF K H' φ' S (uni F (at1 p)) → H' p = some (.lst vs) → RVs K H' φ' (uni (Lv φ' S) (uni F (at1 p))) xs vs → Q (.ref p) H') : Q (.ref p) (upd H p (.lst vs)) := by
  have k : ∀ a, H a ≠ none → ¬ uni (Lv φ S) F a → upd H p (.lst vs) a = H a ∧ ¬ uni (Lv φ S) (uni F (at1 p)) a := fun a ha m => by
    have ne : a ≠ p := fun z => ha (by rw [z]; exact hp)
    exact ⟨upd_ne ne, fun z => z.elim (fun z => m (.inl z)) fun z => z.elim (fun z => m (.inr z)) ne⟩
  refine h φ _ (ev_new hp) (w.new hp) p vs ?_ ?_ upd_same (r.mono k fun _ _ h => h)
  · cases q : H0 p with
    | none => rfl
    | some o => exact (st p (by rw [q]; nofun) hp).elim
  · have w2 := w.new (o := .lst vs) hp
    refine ⟨w2.len, fun n u e => ?_, w2.inj, fun a z => z.elim (w2.away a) fun z => ?_⟩
    · obtain ⟨a, ho, e1, e2, r⟩ := w.live n u e
      exact ⟨a, ho, e1, (upd_ne fun z => by rw [z, hp] at e2; cases e2).trans e2, r.mono k fun _ _ h => h⟩
    · rw [show a = p from z]
      exact ⟨by rw [upd_same]; nofun, lv_none w hp⟩
def lstN (f : FA) : FN := fun η S => (f η S).bind fun ps S => if ps.length ≤ 1000000 then .ok ps S else .stuck
theorem sn_lst {t : TA} {f : FA} (a : SimA K pv E t f) : SimN K pv E (tLst t) (lstN f) := fun H φ S F O η σ Q w hO re h => by
  refine a H φ S F O η σ _ w hO re (h.bind.imp fun ps φ1 S1 H1 e1 w1 h1 xs rs => ?_)
  split at h1
  · rename_i hl
    exact ⟨million (by rw [rs.len]; exact hl), fun p hp => GoE.lay (E' := E σ) w1 rs hp e1.stay h1⟩
  · exact h1.elim
/-! ### comprehensions -/
def wipeS (η : Sls) : List Nat → Sls
  | [] => η
  | v :: vs => (wipeS η vs).set v .no
abbrev FGx := PV → Sls → Option Sls
/-- a target within a block -/
def SimGx (K : PySem.W.Frag) (pv : V × Option Addr) (vs : List Nat) (g : TG) (f : FGx) : Prop := ∀ (H : Hp) (φ : List Addr) (M O : Addr → Prop) (η η' : Sls) (σ : L2.St) (p : PV) (v : V) (Q : L2.St → Hp → Prop), RE K pv H φ M O η σ → RV K H φ M p v → f p η = some η' →
  (∀ σ', RE K pv H φ M O η' σ' → wipe σ' vs = wipe σ vs → Q σ' H) → g v σ H Q
def compL (g : FGx) (t : FT) (e : FE) : List PV → List PV → Sls → AS → R (List PV)
  | [], acc, _, S => .ok acc S
  | p :: ps, acc, η, S => match g p η with
    | some η2 => (pureR (t η2 S)).bind fun b S1 => if b = true then (pureR (e η2 S1)).bind fun q S2 => if acc.length < 1000000 then compL g t e ps (acc ++ [q]) η S2 else .stuck else compL g t e ps acc η S1
    | none => .stuck
def compN (fi : FI) (vs : List Nat) (g : FGx) (t : FT) (e : FE) : FN := fun η S => (fi η S).bind fun ps S => compL g t e ps [] (wipeS η vs) S
theorem RE.wipe1 {M : Addr → Prop} (r : RE K pv H φ M O η σ) (i : Nat) : RE K pv H φ M O (η.set i .no) (σ.set i none) := by
  refine ⟨by rw [List.length_set, List.length_set]; exact r.len, fun j p h => ?_, fun j xs h => ?_, pin_set nofun (fun _ r => r) r.pin⟩
  · by_cases e : i = j
    · subst e
      rw [List.getElem?_set] at h
      split at h
      · split at h <;> cases h
      · exact absurd rfl ‹_›
    · rw [List.getElem?_set_ne e] at h ⊢
      exact r.val j p h
  · by_cases e : i = j
    · subst e
      rw [List.getElem?_set] at h
      split at h
      · split at h <;> cases h
      · exact absurd rfl ‹_›
    · rw [List.getElem?_set_ne e] at h ⊢
      exact r.own j xs h
theorem RE.wipe {M : Addr → Prop} (r : RE K pv H φ M O η σ) : ∀ vs : List Nat, RE K pv H φ M O (wipeS η vs) (wipe σ vs)
  | [] => r
  | v :: vs => (r.wipe vs).wipe1 v
theorem wipe_idem (σ : L2.St) : ∀ vs us : List Nat, (∀ v ∈ vs, v ∈ us) → wipe (wipe σ us) vs = wipe σ us := by
  intro vs us hs
  apply List.ext_getElem?
  intro i
  induction vs with
  | nil => rfl
  | cons v vs ih =>
    have ih' := ih fun x hx => hs x (List.mem_cons_of_mem _ hx)
    show ((L2.wipe (L2.wipe σ us) vs).set v none)[i]? = _
    by_cases e : v = i
    · subst e
      have hv : v ∈ us := hs v List.mem_cons_self
      have z : ∀ us : List Nat, v ∈ us → (L2.wipe σ us)[v]? = none ∨ (L2.wipe σ us)[v]? = some none := fun us => by
        induction us with
        | nil => intro h; cases h
        | cons u us ih2 =>
          intro h
          show ((L2.wipe σ us).set u none)[v]? = none ∨ ((L2.wipe σ us).set u none)[v]? = some none
          by_cases eu : u = v
          · subst eu
            rw [List.getElem?_set, if_pos rfl]
            split
            · exact .inr rfl
            · exact .inl rfl
          · rw [List.getElem?_set_ne eu]
            rcases List.mem_cons.mp h with h | h
            · exact absurd h.symm eu
            · exact ih2 h
      rw [List.getElem?_set, if_pos rfl]
      rcases z us hv with z | z
      · rw [z, if_neg]
        rw [L2.wipe_length]
        exact Nat.not_lt.mpr (List.getElem?_eq_none_iff.mp z)
      · rw [z, if_pos]
        rw [L2.wipe_length]
        exact (List.getElem?_eq_some_iff.mp z).1
    · rw [List.getElem?_set_ne e]
      exact ih'
theorem sn_lc {wi : TI} {g : TG} {tt : TT} {te : TE} {vs : List Nat} {fi : FI} {fg : FGx} {ft : FT} {fe : FE} (hi : SimI K pv E wi fi) (hg : SimGx K pv vs g fg) (ht : SimT K pv (fun _ _ _ _ => False) tt ft) (he : SimE K pv (fun _ _ _ _ => False) te fe) :
    SimN K pv E (tLc wi g tt te vs) (compN fi vs fg ft fe) := fun H φ S F O η σ Q w hO re h => by
  refine hi H φ S F O η σ _ w hO re (h.bind.imp fun ps φ1 S1 H1 e1 w1 h1 J hJ D hD => ?_)
  have nD : H D = none := by
    cases q : H D with
    | none => rfl
    | some o => exact (e1.stay D (by rw [q]; nofun) hD).elim
  -- the state while the list grows: F with D
  have k0 : ∀ a, H1 a ≠ none → ¬ uni (Lv φ1 S1) F a → upd H1 D (.lst []) a = H1 a ∧ ¬ uni (Lv φ1 S1) (uni F (at1 D)) a := fun a ha m => by
    have ne : a ≠ D := fun z => ha (by rw [z]; exact hD)
    exact ⟨upd_ne ne, fun z => z.elim (fun z => m (.inl z)) fun z => z.elim (fun z => m (.inr z)) ne⟩
  have w0 : WF K (upd H1 D (.lst [])) φ1 S1 (uni F (at1 D)) := by
    have w2 := w1.new (o := .lst []) hD
    refine ⟨w2.len, fun n u e => ?_, w2.inj, fun a z => z.elim (w2.away a) fun z => ?_⟩
    · obtain ⟨a, ho, e1, e2, r⟩ := w1.live n u e
      exact ⟨a, ho, e1, (upd_ne fun z => by rw [z, hD] at e2; cases e2).trans e2, r.mono k0 fun _ _ h => h⟩
    · rw [show a = D from z]
      exact ⟨by rw [upd_same]; nofun, lv_none w1 hD⟩
  have re1 := re.mono w hO e1
  have re0 : RE K pv (upd H1 D (.lst [])) φ1 (uni (Lv φ1 S1) (uni F (at1 D))) O η σ := ⟨re1.len, fun i p h => let ⟨v, h1, h2⟩ := re1.val i p h; ⟨v, h1, h2.mono k0 fun _ _ h => h⟩, fun i xs h => by
    obtain ⟨a, vs, h1, h2, h3, h4⟩ := re1.own i xs h
    have ne : a ≠ D := fun z => by rw [z, hD] at h2; cases h2
    exact ⟨a, vs, h1, (upd_ne ne).trans h2, h3.mono k0 fun _ _ h => h, h4⟩, fun i fs h => let ⟨h1, h2⟩ := re1.pin i fs h; ⟨h1, h2.mono k0 fun _ _ h => h⟩⟩
  generalize hr0 : compL fg ft fe ps [] (wipeS η vs) S1 = r0 at h1
  have inD : ∀ {H2 : Hp} {φ2 : List Addr} {S2 : AS} {H4 : Hp} {φ4 : List Addr} {S4 : AS}, WF K H2 φ2 S2 (uni F (at1 D)) → Ev H2 φ2 (Lv φ2 S2) H4 φ4 (Lv φ4 S4) → ∀ {us : List V}, H2 D = some (.lst us) → H4 D = some (.lst us) := fun w e us hl => (e.keep D (by rw [hl]; nofun) (w.away D (.inr rfl)).2).1.trans hl
  refine ⟨fun i m H' => m = ps.length - i ∧ i ≤ ps.length ∧ ∃ φ' S' acc us, r0 = compL fg ft fe (ps.drop i) acc (wipeS η vs) S' ∧ Ev H1 φ1 (Lv φ1 S1) H' φ' (Lv φ' S') ∧ WF K H' φ' S' (uni F (at1 D)) ∧ H' D = some (.lst us) ∧ RVs K H' φ' (uni (Lv φ' S') (uni F (at1 D))) acc us,
    ⟨_, rfl, Nat.zero_le _, φ1, S1, [], [], by rw [List.drop_zero]; exact hr0.symm, ev_new hD, w0, upd_same, .nil⟩, ?_⟩
  rintro i m H' ⟨rfl, hi, φ', S', acc, us, eq, ev, ws, hl, hr⟩
  have kk : ∀ a, H1 a ≠ none → ¬ uni (Lv φ1 S1) F a → H' a = H1 a ∧ ¬ uni (Lv φ' S') (uni F (at1 D)) a := fun a h m => by
    obtain ⟨q2, m2⟩ := ev.keep a h fun z => m (.inl z)
    have ne : a ≠ D := fun z => h (by rw [z]; exact hD)
    exact ⟨q2, fun z => z.elim m2 fun z => z.elim (fun z => m (.inr z)) ne⟩
  have hw := hJ H' φ' (uni (Lv φ' S') (uni F (at1 D))) kk ev.pre (fun a z => z.elim (lv_some ws) fun z => (ws.away a z).1)
  by_cases hlt : i < ps.length
  · have e : ps[i]? = some ps[i] := List.getElem?_eq_getElem hlt
    obtain ⟨hgo, hy⟩ := hw.1 i _ e
    rw [List.drop_eq_getElem_cons hlt] at eq
    refine .inr ⟨hgo, fun H2 => ∃ φ2 S2 acc us, r0 = compL fg ft fe (ps.drop (i + 1)) acc (wipeS η vs) S2 ∧ Ev H1 φ1 (Lv φ1 S1) H2 φ2 (Lv φ2 S2) ∧ WF K H2 φ2 S2 (uni F (at1 D)) ∧ H2 D = some (.lst us) ∧ RVs K H2 φ2 (uni (Lv φ2 S2) (uni F (at1 D))) acc us,
      fun H2 ⟨φ2, S2, acc, us, a, b, c, d, g⟩ => ⟨_, by omega, rfl, hlt, φ2, S2, acc, us, a, b, c, d, g⟩, fun x H3 hx => ?_⟩
    obtain ⟨ext, rv⟩ := hy x H3 hx
    have w3 := ws.ext ext
    have e3 : Ev H' φ' (Lv φ' S') H3 φ' (Lv φ' S') := ev_ext ext
    have hO' : ∀ a, O a → uni F (at1 D) a := fun a z => .inl (hO a z)
    have re3 : RE K pv H3 φ' (uni (Lv φ' S') (uni F (at1 D))) O η σ := ⟨re1.len, fun i p h => by
      obtain ⟨v, h1, h2⟩ := re1.val i p h
      refine ⟨v, h1, h2.mono (fun a h m => ?_) ev.pre⟩
      obtain ⟨q1, m1⟩ := kk a h m
      exact ⟨(ext a (by rw [q1]; exact h)).trans q1, m1⟩, fun i xs h => by
      obtain ⟨a, vs, h1, h2, h3, h4⟩ := re1.own i xs h
      have q1 := (ev.keep a (by rw [h2]; nofun) (w1.away a (hO a h4)).2).1
      refine ⟨a, vs, h1, (ext a (by rw [q1, h2]; nofun)).trans (q1.trans h2), h3.mono (fun a h m => ?_) ev.pre, h4⟩
      obtain ⟨q1, m1⟩ := kk a h m
      exact ⟨(ext a (by rw [q1]; exact h)).trans q1, m1⟩, fun i fs h => by
      obtain ⟨h1, h2⟩ := re1.pin i fs h
      refine ⟨h1, h2.mono (fun a h m => ?_) ev.pre⟩
      obtain ⟨q1, m1⟩ := kk a h m
      exact ⟨(ext a (by rw [q1]; exact h)).trans q1, m1⟩⟩
    have hl3 : H3 D = some (.lst us) := (ext D (by rw [hl]; nofun)).trans hl
    have hr3 := hr.mono (fun a h m => ⟨ext a h, m⟩) fun _ _ h => h
    rw [eq] at h1
    unfold compL at eq h1
    cases q : fg ps[i] (wipeS η vs) with
    | none => rw [q] at h1; exact (show False from h1).elim
    | some η2 =>
      rw [q] at eq h1
      dsimp only at eq h1
      refine hg H3 φ' _ O _ η2 _ _ x _ (re3.wipe vs) rv q fun σ2 re2 hwi => ⟨hwi.trans (wipe_idem σ vs vs fun _ h => h), ?_⟩
      refine ht H3 φ' S' (uni F (at1 D)) O η2 σ2 _ w3 hO' re2 ?_
      cases q2 : ft η2 S' with
      | exc c fs S4 => rw [q2] at h1; exact (show False from h1).elim
      | stuck => rw [q2] at h1; exact (show False from h1).elim
      | ok b S4 =>
        rw [q2] at eq h1
        dsimp only [pureR, R.bind_ok] at eq h1
        intro φ4 H4 ev4 w4
        have l4 := inD w3 ev4 hl3
        have r4 := ev4.rvs hr3
        have ev14 := (ev.trans e3).trans ev4
        cases b with
        | false =>
          rw [if_neg Bool.false_ne_true] at eq ⊢
          exact ⟨φ4, S4, acc, us, eq, ev14, w4, l4, r4⟩
        | true =>
          rw [if_pos rfl] at eq h1 ⊢
          have re4 := re2.mono w3 hO' ev4
          refine he H4 φ4 S4 (uni F (at1 D)) O η2 σ2 _ w4 hO' re4 ?_
          cases q5 : fe η2 S4 with
          | exc c fs S5 => rw [q5] at h1; exact (show False from h1).elim
          | stuck => rw [q5] at h1; exact (show False from h1).elim
          | ok y S5 =>
            rw [q5] at eq h1
            dsimp only [pureR, R.bind_ok] at eq h1
            intro φ5 H5 ev5 w5 yv ry
            split at h1
            · rename_i hsz
              rw [if_pos hsz] at eq
              have l5 := inD w4 ev5 l4
              have r5 := ev5.rvs r4
              refine ⟨us, l5, ?_, ?_⟩
              · rw [r5.len, sizeLine_eq]
                omega
              have ev15 := ev14.trans ev5
              have hlD : ¬ Lv φ5 S5 D := (w5.away D (.inr rfl)).2
              have kw : ∀ a, H5 a ≠ none → ¬ uni (Lv φ5 S5) (uni F (at1 D)) a → upd H5 D (.lst (us ++ [yv])) a = H5 a ∧ ¬ uni (Lv φ5 S5) (uni F (at1 D)) a := fun a h m => ⟨upd_ne fun z => m (.inr (.inr z)), m⟩
              have sw : ∀ a, H5 a ≠ none → upd H5 D (.lst (us ++ [yv])) a ≠ none := fun a h => by
                by_cases e : a = D
                · subst e; rw [upd_same]; nofun
                · rw [upd_ne e]; exact h
              have w6 : WF K (upd H5 D (.lst (us ++ [yv]))) φ5 S5 (uni F (at1 D)) := by
                refine ⟨w5.len, fun n u e => ?_, w5.inj, fun a z => ?_⟩
                · obtain ⟨a, ho, e1, e2, r⟩ := w5.live n u e
                  exact ⟨a, ho, e1, (upd_ne fun z => hlD ⟨n, u, e, by rw [← z]; exact e1⟩).trans e2, r.mono kw fun _ _ h => h⟩
                · obtain ⟨h1, h2⟩ := w5.away a z
                  exact ⟨sw a h1, h2⟩
              refine ⟨φ5, S5, acc ++ [y], us ++ [yv], eq, ⟨fun a h => sw a (ev15.stay a h), fun a h m => ?_, ev15.pre⟩, w6, upd_same, (r5.append (.cons ry .nil)).mono kw fun _ _ h => h⟩
              obtain ⟨q, m'⟩ := ev15.keep a h m
              exact ⟨(upd_ne fun z => h (by rw [z]; exact hD)).trans q, m'⟩
            · exact h1.elim
  · have e : i = ps.length := by omega
    subst e
    rw [List.drop_length] at eq
    refine .inl ⟨hw.2, ?_⟩
    rw [eq] at h1
    exact h1 φ' H' ev (ws.less fun a z => .inl z) D us nD ws hl hr
end
end Fu

end
section
set_option Elab.async false
set_option linter.all false
set_option maxRecDepth 100000
set_option maxHeartbeats 4000000
namespace Fu
open PySem PySem.Spec PyProof.Rows L2
open He (ga)
/-! ### defs -/
abbrev Fn := List PV → AS → R PV
def spF (K : PySem.W.Frag) (n : Nat) (f : Fn) : Sp := fun vs H Q E => ∃ (φ : List Addr) (S : AS) (F : Addr → Prop) (ps : List PV), ps.length = n ∧ WF K H φ S F ∧ RVs K H φ (uni (Lv φ S) F) ps vs ∧ GoE K E F H φ S (f ps S) fun p φ' S' H' => ∀ v, RV K H' φ' (uni (Lv φ' S') F) p v → Q v H'
/-- a def's function from its body's -/
def fnOf (N : Nat) (b : FS) : Fn := fun ps S => match b (ps.map Sl.val ++ List.replicate (N - ps.length) Sl.no) S with
  | .rt p S => .ok p S
  | .nx _ S => .ok .non S
  | .exc c fs _ S => .exc c fs S
  | _ => .stuck
def callF (f : Fn) (a : FA) : FE := fun η S => (a η S).bind fun ps S => f ps S
section
variable {K : PySem.W.Frag} {pv : V × Option Addr} {E : XW} {F O : Addr → Prop} {H H' H1 H3 : Hp} {φ φ' φ1 : List Addr} {S S' S1 : AS} {η η' η1 : Sls} {σ σ' σ1 : L2.St} {D : Ends}
theorem spF_len {n : Nat} {f : Fn} {vs : List V} {Q : VK} {X : XK} (h : spF K n f vs H Q X) : vs.length = n := by
  obtain ⟨φ, S, F, ps, e, w, r, _⟩ := h
  rw [r.len, e]
theorem start_val {ps : List PV} {k : Nat} {i : Nat} {p : PV} (h : (ps.map Sl.val ++ List.replicate k Sl.no)[i]? = some (.val p)) : ps[i]? = some p := by
  rw [List.getElem?_append] at h
  split at h
  · rw [List.getElem?_map] at h
    cases q : ps[i]? with
    | none => rw [q] at h; cases h
    | some x => rw [q] at h; cases h; rfl
  · rw [List.getElem?_replicate] at h
    split at h <;> cases h
theorem start_own {ps : List PV} {k : Nat} {i : Nat} {xs : List PV} (h : (ps.map Sl.val ++ List.replicate k Sl.no)[i]? = some (.own xs)) : False := by
  rw [List.getElem?_append] at h
  split at h
  · rw [List.getElem?_map] at h
    cases q : ps[i]? with
    | none => rw [q] at h; cases h
    | some x => rw [q] at h; cases h
  · rw [List.getElem?_replicate] at h
    split at h <;> cases h
theorem start_pin {ps : List PV} {k : Nat} {i : Nat} {fs : List (Str × PV)} (h : (ps.map Sl.val ++ List.replicate k Sl.no)[i]? = some (.pin fs)) : False := by
  rw [List.getElem?_append] at h
  split at h
  · rw [List.getElem?_map] at h
    cases q : ps[i]? with
    | none => rw [q] at h; cases h
    | some x => rw [q] at h; cases h
  · rw [List.getElem?_replicate] at h
    split at h <;> cases h
theorem fn_go {N : List Str} {n : Nat} {t : TS} {b : FS} {X : XK} {vs : List V} {Q : VK} (s : SimS K (.non, none) (fun _ => X) t b) (h : spF K n (fnOf N.length b) vs H Q X) : t { nx := fun _ H' => Q .non H', rt := Q } (L2.start N vs) H := by
  obtain ⟨φ, S, F, ps, e, w, r, g⟩ := h
  have no : ∀ a, ¬ Own (ps.map Sl.val ++ List.replicate (N.length - ps.length) Sl.no) (L2.start N vs) a := fun a ⟨i, xs, h, _⟩ => start_own h
  have hm : ∀ a, uni (Lv φ S) (uni F (Own (ps.map Sl.val ++ List.replicate (N.length - ps.length) Sl.no) (L2.start N vs))) a → uni (Lv φ S) F a := fun a z => z.imp id fun z => z.elim id fun z => (no a z).elim
  have ws : WS K (.non, none) H φ S F (ps.map Sl.val ++ List.replicate (N.length - ps.length) Sl.no) (L2.start N vs) := by
    refine ⟨w.less fun a z => z.elim id fun z => (no a z).elim, ⟨?_, fun i p h => ?_, fun i xs h => (start_own h).elim, fun i fs h => (start_pin h).elim⟩, fun i j xs ys a h => (start_own h).elim, fun a _ => no a⟩
    · unfold L2.start
      rw [List.length_append, List.length_append, List.length_map, List.length_map, List.length_replicate, List.length_replicate, r.len]
    · obtain ⟨v, h1, h2⟩ := r.get (start_val h)
      refine ⟨v, ?_, h2.less hm⟩
      unfold L2.start
      rw [List.getElem?_append_left (by rw [List.length_map]; exact (List.getElem?_eq_some_iff.mp h1).1), List.getElem?_map, h1]
      rfl
  refine s H φ S F _ _ _ ws ?_
  have lift' : ∀ {φ' : List Addr} {S' : AS} {H' : Hp} {M' : Addr → Prop}, Ev H φ (uni (Lv φ S) (Own (ps.map Sl.val ++ List.replicate (N.length - ps.length) Sl.no) (L2.start N vs))) H' φ' M' → (∀ a, Lv φ' S' a → M' a) → Ev H φ (Lv φ S) H' φ' (Lv φ' S') := fun e hl => ⟨e.stay, fun a h m => by
    obtain ⟨q, m'⟩ := e.keep a h fun z => z.elim m (no a)
    exact ⟨q, fun z => m' (hl a z)⟩, e.pre⟩
  unfold fnOf at g
  cases q : b (ps.map Sl.val ++ List.replicate (N.length - ps.length) Sl.no) S with
  | nx η' S' =>
    rw [q] at g
    exact fun φ' H' σ' ev ws' => g φ' H' (lift' ev fun a z => .inl z) ws'.out _ .non
  | rt p S' =>
    rw [q] at g
    exact fun φ' H' v ev w' r => g φ' H' (lift' ev fun a z => z) w' v r
  | exc c fs η' S' =>
    rw [q] at g
    refine fun φ' H' d σ' ev ws' x => g φ' H' d (lift' ev fun a z => .inl z) ws'.out ?_
    rcases x with x | ⟨dd, gs, h1, h2, h3, h4⟩
    · exact .inl x
    · exact .inr ⟨dd, gs, h1, h2, h3.mono (fun a h m => ⟨rfl, fun z => m (z.imp id .inl)⟩) fun _ _ h => h, fun z => h4 (z.imp id .inl)⟩
  | bk η' S' => rw [q] at g; exact (show False from g).elim
  | ct η' S' => rw [q] at g; exact (show False from g).elim
  | stuck => rw [q] at g; exact (show False from g).elim
theorem SimA.len {t : TA} {fa : FA} (n : Nat) (a : SimA K pv E t fa) : SimA K pv E t fun η S => (fa η S).bind fun ps S => if ps.length = n then .ok ps S else .stuck := fun H φ S F O η σ Q w hO re h => by
  refine a H φ S F O η σ Q w hO re (h.bind.imp fun ps φ1 S1 H1 e1 w1 h1 vs rs => ?_)
  split at h1
  · exact h1.ok w1 vs rs
  · exact h1.elim
/-- a def called: the number of its arguments is right -/
def callN (n : Nat) (f : Fn) (a : FA) : FE := fun η S => (a η S).bind fun ps S => if ps.length = n then f ps S else .stuck
theorem se_call {n : Nat} {f : Fn} {t : TA} {fa : FA} {X : XK} (a : SimA K pv (fun _ => X) t fa) : SimE K pv (fun _ => X) (tCall (spF K n f) [] X t) (callN n f fa) := fun H φ S F O η σ Q w hO re h => by
  refine a H φ S F O η σ _ w hO re (h.bind.imp fun ps φ1 S1 H1 e1 w1 h1 vs rs => ?_)
  split at h1
  · rename_i hl
    rw [List.append_nil]
    exact ⟨φ1, S1, F, ps, hl, w1, rs, h1⟩
  · exact h1.elim
theorem se_callS {n : Nat} {f : Fn} {t : TA} {fa : FA} (a : SimA K pv E t fa) : SimE K pv E (tCallS (spF K n f) E t) (callN n f fa) := fun H φ S F O η σ Q w hO re h => by
  refine a H φ S F O η σ _ w hO re (h.bind.imp fun ps φ1 S1 H1 e1 w1 h1 vs rs => ?_)
  split at h1
  · rename_i hl
    exact ⟨φ1, S1, F, ps, hl, w1, rs, h1⟩
  · exact h1.elim
/-! ### lists of a slot -/
def ownS (i : Nat) (f : FN) : FS := fun η S => lift (f η S) η fun xs S => .nx (η.set i (.own xs)) S
theorem set_own {i j : Nat} {xs ys : List PV} {p a : Addr} (h1 : (η.set i (.own xs))[j]? = some (.own ys)) (h2 : (σ.set i (some (.ref p)))[j]? = some (some (.ref a))) : (i = j ∧ a = p ∧ xs = ys) ∨ (i ≠ j ∧ η[j]? = some (.own ys) ∧ σ[j]? = some (some (.ref a))) := by
  by_cases e : i = j
  · subst e
    rw [List.getElem?_set, if_pos rfl] at h1 h2
    split at h1
    · cases h1
      split at h2
      · cases h2; exact .inl ⟨rfl, rfl, rfl⟩
      · cases h2
    · cases h1
  · rw [List.getElem?_set_ne e] at h1 h2
    exact .inr ⟨e, h1, h2⟩
theorem ss_own {i : Nat} {t : TE} {f : FN} (a : SimN K pv E t f) : SimS K pv E (tAsg t (gName i)) (ownS i f) := fun H φ S F η σ D w h => by
  refine a H φ S _ _ η σ _ w.wf (fun _ z => .inr z) w.re ((GoS.lift0 w h).imp fun xs φ1 S1 H1 e1 w1 h1 p vs hp w2 hl r => ?_)
  obtain ⟨h1, ws⟩ := h1
  have ow : ∀ a, Own (η.set i (.own xs)) (σ.set i (some (.ref p))) a → Own η σ a ∨ a = p := fun a ⟨j, ys, q1, q2⟩ => by
    rcases set_own q1 q2 with ⟨_, e, _⟩ | ⟨_, q1, q2⟩
    · exact .inr e
    · exact .inl ⟨j, ys, q1, q2⟩
  have hm : ∀ a, uni F (Own (η.set i (.own xs)) (σ.set i (some (.ref p)))) a → uni (uni F (Own η σ)) (at1 p) a := fun a z => z.elim (fun z => .inl (.inl z)) fun z => (ow a z).imp .inr id
  have k : ∀ a, H a ≠ none → ¬ uni (Lv φ S) (uni F (Own η σ)) a → H1 a = H a ∧ ¬ uni (Lv φ1 S1) (uni (uni F (Own η σ)) (at1 p)) a := fun a h m => by
    obtain ⟨q, m'⟩ := e1.keepU (F := uni F (Own η σ)) a h m
    exact ⟨q, fun z => z.elim (fun z => m' (.inl z)) fun z => z.elim (fun z => m' (.inr z)) fun z => h (by rw [show a = p from z]; exact hp)⟩
  have re1 : RE K pv H1 φ1 (uni (Lv φ1 S1) (uni (uni F (Own η σ)) (at1 p))) (Own η σ) η σ := ⟨w.re.len, fun j q h => let ⟨v, h1, h2⟩ := w.re.val j q h; ⟨v, h1, h2.mono k e1.pre⟩, fun j ys h => by
    obtain ⟨a, us, h1, h2, h3, h4⟩ := w.re.own j ys h
    exact ⟨a, us, h1, (e1.keep a (by rw [h2]; nofun) (w.wf.away a (.inr h4)).2).1.trans h2, h3.mono k e1.pre, h4⟩, fun j fs h => let ⟨h1, h2⟩ := w.re.pin j fs h; ⟨h1, h2.mono k e1.pre⟩⟩
  have op : ∀ {a}, Own η σ a → a ≠ p := fun {a} z e => (w.wf.away a (.inr z)).1 (by rw [e]; exact hp)
  have fp : ∀ {a}, F a → a ≠ p := fun {a} z e => (w.wf.away a (.inl z)).1 (by rw [e]; exact hp)
  have mm : ∀ a, uni (Lv φ1 S1) (uni F (Own (η.set i (.own xs)) (σ.set i (some (.ref p))))) a → uni (Lv φ1 S1) (uni (uni F (Own η σ)) (at1 p)) a := fun a z => z.imp id (hm a)
  refine h1 φ1 H1 (σ.set i (some (.ref p))) ?_ ?_
  · refine ⟨e1.stay, fun a ha m => ?_, e1.pre⟩
    obtain ⟨q, m'⟩ := e1.keep a ha fun z => m (.inl z)
    exact ⟨q, fun z => z.elim m' fun z => (ow a z).elim (fun z => m (.inr z)) fun e => ha (by rw [e]; exact hp)⟩
  · refine ⟨w2.less hm, ⟨by rw [List.length_set, List.length_set]; exact re1.len, fun j q h => ?_, fun j ys h => ?_, pin_set nofun (fun _ r => r.less mm) re1.pin⟩, fun j l xs ys a h1 h2 h3 h4 => ?_, fun a z1 z2 => (ow a z2).elim (w.dis a z1) (fp z1)⟩
    · by_cases e : i = j
      · subst e
        rw [List.getElem?_set] at h
        split at h
        · split at h <;> cases h
        · exact absurd rfl ‹_›
      · rw [List.getElem?_set_ne e] at h ⊢
        obtain ⟨v, h1, h2⟩ := re1.val j q h
        exact ⟨v, h1, h2.less mm⟩
    · by_cases e : i = j
      · subst e
        have h0 := h
        rw [List.getElem?_set, if_pos rfl] at h
        split at h
        · rename_i hi
          cases h
          have q : (σ.set i (some (V.ref p)))[i]? = some (some (.ref p)) := by rw [List.getElem?_set, if_pos rfl, if_pos (by rw [w.re.len]; exact hi)]
          exact ⟨p, vs, q, hl, r.less mm, ⟨i, _, h0, q⟩⟩
        · cases h
      · have h0 := h
        rw [List.getElem?_set_ne e] at h
        obtain ⟨a, us, q1, q2, q3, q4⟩ := re1.own j ys h
        have q : (σ.set i (some (V.ref p)))[j]? = some (some (.ref a)) := by rw [List.getElem?_set_ne e]; exact q1
        exact ⟨a, us, q, q2, q3.less mm, ⟨j, ys, h0, q⟩⟩
    · rcases set_own h1 h3 with ⟨e1, e2, _⟩ | ⟨_, q1, q2⟩
      · rcases set_own h2 h4 with ⟨e3, _, _⟩ | ⟨_, q3, q4⟩
        · rw [← e1, ← e3]
        · exact (op ⟨_, _, q3, q4⟩ e2).elim
      · rcases set_own h2 h4 with ⟨_, e4, _⟩ | ⟨_, q3, q4⟩
        · exact (op ⟨_, _, q1, q2⟩ e4).elim
        · exact w.inj j l _ _ a q1 q3 q2 q4
end
end Fu

end
section
set_option Elab.async false
set_option linter.all false
set_option maxRecDepth 100000
set_option maxHeartbeats 4000000
namespace Fu
open PySem PySem.Spec PyProof.Rows L2
open He (ga)
/-! ### operations by values -/
section
variable {X : Cx} {K : PySem.W.Frag}
def rAddU (K : PySem.W.Frag) : R2 := fun x y H Q => rI0 (fun i j => .int (i + j)) x y H Q ∨ (∃ i j, x = .str i ∧ y = .str j ∧ i.length + j.length ≤ sizeLine ∧ Q (.str (i ++ j)) H) ∨ rCatA K x y H Q ∨ rCat x y H Q
theorem op_addU (h : X.K = K := by rfl) : OpR X (binaryOp .Add) (rAddU K) := by
  subst h
  exact op_add.or (op_add_str.or (op_catA.or op_cat))
end
def addG : PV → PV → AS → R PV := fun p q S => match p, q with
  | .int i, .int j => .ok (.int (i + j)) S
  | .str i, .str j => if i.length + j.length ≤ 1000000 then .ok (.str (i ++ j)) S else .stuck
  | .tup xs, .tup ys => if xs.length + ys.length ≤ 1000000 then .ok (.tup (xs ++ ys)) S else .stuck
  | .lst xs, .lst ys => if xs.length + ys.length ≤ 1000000 then .ok (.lst (xs ++ ys)) S else .stuck
  | _, _ => .stuck
section
variable {K : PySem.W.Frag} {pv : V × Option Addr} {E : XW} {F O : Addr → Prop} {H H' H1 H3 : Hp} {φ φ' φ1 : List Addr} {S S' S1 : AS} {M : Addr → Prop}
theorem RB.int {i : Int} {x : V} (r : RB K H φ M O (.int i) x) : x = .int i := by
  rcases r with r | ⟨_, _, _, z, _⟩
  · cases r; rfl
  · cases z
theorem RB.str {i : Str} {x : V} (r : RB K H φ M O (.str i) x) : x = .str i := by
  rcases r with r | ⟨_, _, _, z, _⟩
  · cases r; rfl
  · cases z
theorem RB.bl {i : Bool} {x : V} (r : RB K H φ M O (.bl i) x) : x = .bl i := by
  rcases r with r | ⟨_, _, _, z, _⟩
  · cases r; rfl
  · cases z
theorem RB.non {x : V} (r : RB K H φ M O .non x) : x = .non := by
  rcases r with r | ⟨_, _, _, z, _⟩
  · cases r; rfl
  · cases z
theorem RB.ty {n : String} {x : V} (r : RB K H φ M O (.ty n) x) : x = .ty n := by
  rcases r with r | ⟨_, _, _, z, _⟩
  · cases r; rfl
  · cases z
theorem RB.con {n : Str} {x : V} (r : RB K H φ M O (.con n) x) : x = .ref (ga K n) := by
  rcases r with r | ⟨_, _, _, z, _⟩
  · cases r; rfl
  · cases z
theorem RB.ref {n : Nat} {x : V} (r : RB K H φ M O (.ref n) x) : ∃ a, x = .ref a ∧ φ[n]? = some a := by
  rcases r with r | ⟨_, _, _, z, _⟩
  · cases r with | ref h => exact ⟨_, rfl, h⟩
  · cases z
theorem RB.tup {xs : List PV} {x : V} (r : RB K H φ M O (.tup xs) x) : ∃ a vs, x = .ref a ∧ SqT K H a vs ∧ RVs K H φ M xs vs := by
  rcases r with r | ⟨_, _, _, z, _⟩
  · cases r with | tup h rs => exact ⟨_, _, rfl, h.sq, rs⟩
  · cases z
theorem RB.ktu {xs : List PV} {x : V} (r : RB K H φ M O (.ktu xs) x) : ∃ a vs, x = .ref a ∧ SqT K H a vs ∧ RVs K H φ M xs vs := by
  rcases r with r | ⟨_, _, _, z, _⟩
  · cases r with | ktu h rs => exact ⟨_, _, rfl, h.sq, rs⟩
  · cases z
theorem RB.lst {xs : List PV} {x : V} (r : RB K H φ M O (.lst xs) x) : ∃ a vs, x = .ref a ∧ H a = some (.lst vs) ∧ RVs K H φ M xs vs := by
  rcases r with r | ⟨a, _, vs, z, z2, h1, _, h2⟩
  · cases r with | lst h rs => exact ⟨_, _, rfl, h.1, rs⟩
  · cases z; exact ⟨a, vs, z2, h1, h2⟩
theorem RB.kls {xs : List PV} {x : V} (r : RB K H φ M O (.kls xs) x) : ∃ a vs, x = .ref a ∧ SqL K H a vs ∧ RVs K H φ M xs vs := by
  rcases r with r | ⟨_, _, _, z, _⟩
  · cases r with | kls h rs => exact ⟨_, _, rfl, h.sq, rs⟩
  · cases z
theorem sr_add : SimR K (rAddU K) addG := fun H φ S F O p q x y Q w hO rp rq h => by
  unfold addG at h
  split at h
  · obtain rfl := rp.int
    obtain rfl := rq.int
    exact .inl ⟨_, _, rfl, rfl, h.ok w _ .int⟩
  · split at h
    · rename_i hl
      obtain rfl := rp.str
      obtain rfl := rq.str
      exact .inr (.inl ⟨_, _, rfl, rfl, million hl, h.ok w _ .str⟩)
    · exact h.elim
  · split at h
    · rename_i xs ys hl
      obtain ⟨a, vs, rfl, h1, r1⟩ := rp.tup
      obtain ⟨b, ws, rfl, h2, r2⟩ := rq.tup
      refine .inr (.inr (.inl ⟨a, b, vs, ws, rfl, rfl, h1, h2, million (by rw [r1.len, r2.len]; exact hl), fun e => ?_, fun _ e => ?_, fun _ _ p hp => ?_⟩))
      · subst e
        cases r1
        refine h.ok w _ ?_
        rcases rq with rq | ⟨_, _, _, z, _⟩
        · exact rq
        · cases z
      · subst e
        cases r2
        refine h.ok w _ ?_
        rcases rp with rp | ⟨_, _, _, z, _⟩
        · rw [List.append_nil]; exact rp
        · cases z
      · exact h.new w hp _ (.newTup w hp (r1.append r2))
    · exact h.elim
  · split at h
    · rename_i xs ys hl
      obtain ⟨a, vs, rfl, h1, r1⟩ := rp.lst
      obtain ⟨b, ws, rfl, h2, r2⟩ := rq.lst
      exact .inr (.inr (.inr ⟨a, b, vs, ws, rfl, rfl, h1, h2, million (by rw [r1.len, r2.len]; exact hl), fun p hp => h.new w hp _ (.newLst w hp (r1.append r2))⟩))
    · exact h.elim
  · exact h.elim
/-- two ints -/
def intG (C : Int → Int → Bool) (g : Int → Int → PV) : PV → PV → AS → R PV := fun p q S => match p, q with
  | .int i, .int j => if C i j = true then .ok (g i j) S else .stuck
  | _, _ => .stuck
theorem sr_int {C : Int → Int → Prop} {c : Int → Int → Bool} {g : Int → Int → Int} (hc : ∀ i j, c i j = true → C i j) : SimR K (rI C fun i j => .int (g i j)) (intG c fun i j => .int (g i j)) := fun H φ S F O p q x y Q w hO rp rq h => by
  unfold intG at h
  split at h
  · split at h
    · rename_i hl
      obtain rfl := rp.int
      obtain rfl := rq.int
      exact ⟨_, _, rfl, rfl, hc _ _ hl, h.ok w _ .int⟩
    · exact h.elim
  · exact h.elim
def int0G (g : Int → Int → PV) : PV → PV → AS → R PV := fun p q S => match p, q with
  | .int i, .int j => .ok (g i j) S
  | _, _ => .stuck
theorem sr_int0 {g : Int → Int → Int} : SimR K (rI0 fun i j => .int (g i j)) (int0G fun i j => .int (g i j)) := fun H φ S F O p q x y Q w hO rp rq h => by
  unfold int0G at h
  split at h
  · obtain rfl := rp.int
    obtain rfl := rq.int
    exact ⟨_, _, rfl, rfl, h.ok w _ .int⟩
  · exact h.elim
theorem sr_cmp {g : Int → Int → Bool} : SimR K (rI0 fun i j => .bl (g i j)) (int0G fun i j => .bl (g i j)) := fun H φ S F O p q x y Q w hO rp rq h => by
  unfold int0G at h
  split at h
  · obtain rfl := rp.int
    obtain rfl := rq.int
    exact ⟨_, _, rfl, rfl, h.ok w _ .bl⟩
  · exact h.elim
abbrev subG := int0G fun i j => .int (i - j)
abbrev ltG := int0G fun i j => .bl (decide (i < j))
abbrev leG := int0G fun i j => .bl (decide (i ≤ j))
abbrev gtG := int0G fun i j => .bl (decide (j < i))
abbrev geG := int0G fun i j => .bl (decide (j ≤ i))
def cMul (i j : Int) : Bool := decide (-(2 ^ 64) < i ∧ i < 2 ^ 64) || decide (-(2 ^ 64) < j ∧ j < 2 ^ 64)
def cMod (_ j : Int) : Bool := decide (j ≠ 0)
def cDiv (_ j : Int) : Bool := decide (j ≠ 0 ∧ j.natAbs < 1073741824)
def cPow (i j : Int) : Bool := decide (0 ≤ j ∧ j ≤ 1000000 ∧ i.natAbs < 2 ^ 64)
abbrev mulG := intG cMul fun i j => .int (i * j)
abbrev modG := intG cMod fun i j => .int (i.fmod j)
abbrev divG := intG cDiv fun i j => .int (i.fdiv j)
abbrev powG := intG cPow fun i j => .int (i ^ j.toNat)
theorem sr_mul : SimR K (rI CMul fun i j => .int (i * j)) mulG := sr_int fun i j h => by
  unfold cMul at h
  simpa [CMul] using h
theorem sr_mod : SimR K (rI (fun _ j => j ≠ 0) fun i j => .int (i.fmod j)) modG := sr_int fun i j h => of_decide_eq_true h
theorem sr_div : SimR K (rI CDivN fun i j => .int (i.fdiv j)) divG := sr_int fun i j h => by
  unfold cDiv at h
  have := of_decide_eq_true h
  exact this
theorem sr_pow : SimR K (rI CPow fun i j => .int (i ^ j.toNat)) powG := sr_int fun i j h => by
  unfold cPow at h
  have := of_decide_eq_true h
  exact this
/-! ### == -/
mutual
def toD : PV → PyData
  | .non => .none
  | .bl b => .bool b
  | .int i => .int i
  | .str x => .str x
  | .tup xs => .tuple (toDs xs)
  | .ktu xs => .tuple (toDs xs)
  | .lst xs => .list (toDs xs)
  | .kls xs => .list (toDs xs)
  | _ => .none
def toDs : List PV → List PyData
  | [] => []
  | p :: ps => toD p :: toDs ps
end
mutual
/-- plain data -/
def isD : PV → Bool
  | .non => true
  | .bl _ => true
  | .int _ => true
  | .str _ => true
  | .tup xs => isDs xs
  | .ktu xs => isDs xs
  | .lst xs => isDs xs
  | .kls xs => isDs xs
  | _ => false
def isDs : List PV → Bool
  | [] => true
  | p :: ps => isD p && isDs ps
end
mutual
theorem RV.dp {p : PV} {v : V} (h : RV K H φ M p v) (d : isD p = true) : Dp K H v (toD p) := by
  cases h with
  | non => unfold toD; exact .non
  | bl => unfold toD; exact .bl _
  | int => unfold toD; exact .int _
  | str => unfold toD; exact .str _
  | tup h r => unfold toD; unfold isD at d; exact .tup h.sq (r.dps d)
  | ktu h r => unfold toD; unfold isD at d; exact .tup h.sq (r.dps d)
  | lst h r => unfold toD; unfold isD at d; exact .lst h.sq (r.dps d)
  | kls h r => unfold toD; unfold isD at d; exact .lst h.sq (r.dps d)
  | ty => cases d
  | con => cases d
  | ref _ => cases d
theorem RVs.dps {ps : List PV} {vs : List V} (h : RVs K H φ M ps vs) (d : isDs ps = true) : DpAll K H vs (toDs ps) := by
  cases h with
  | nil => unfold toDs; exact .nil
  | cons h r =>
    unfold isDs at d
    unfold toDs
    exact .cons (h.dp (Bool.and_eq_true_iff.mp d).1) (r.dps (Bool.and_eq_true_iff.mp d).2)
end
theorem RB.dp {p : PV} {v : V} (h : RB K H φ M O p v) (d : isD p = true) : Dp K H v (toD p) := by
  rcases h with h | ⟨a, xs, vs, rfl, rfl, h1, _, h2⟩
  · exact h.dp d
  · unfold toD
    unfold isD at d
    exact .lst (.inl (.inl h1)) (h2.dps d)
def rEqU (K : PySem.W.Frag) : R2 := fun x y H Q => rEq x y H Q ∨ rEqD K x y H Q
def rNeU (K : PySem.W.Frag) : R2 := fun x y H Q => rNe x y H Q ∨ rNeD K x y H Q
theorem op_eqU {X : Cx} (hu : X.A.units + 64 < cLine) (h : X.K = K := by rfl) : OpR X (compareOp .Eq) (rEqU K) := by
  subst h
  exact op_eq.or (op_eqD hu)
theorem op_neU {X : Cx} (hu : X.A.units + 64 < cLine) (h : X.K = K := by rfl) : OpR X (compareOp .NotEq) (rNeU K) := by
  subst h
  exact op_ne.or (op_neD hu)
/-- scalars at once, other data by their depth -/
def eqv : PV → PV → Option Bool := fun p q => match p, q with
  | .int i, .int j => some (decide (i = j))
  | .str i, .str j => some (decide (i = j))
  | .bl i, .bl j => some (decide (i = j))
  | .non, .non => some true
  | .non, .int _ => some false
  | .int _, .non => some false
  | .non, .str _ => some false
  | .str _, .non => some false
  | .int _, .str _ => some false
  | .str _, .int _ => some false
  | p, q => if isD p && isD q && SeqAt.shaped (toD p) && SeqAt.shaped (toD q) then some (PyData.eqv (toD p) (toD q)) else none
def eqG (g : Bool → Bool) : PV → PV → AS → R PV := fun p q S => match eqv p q with
  | some b => .ok (.bl (g b)) S
  | none => .stuck
theorem eqv_ok {p q : PV} {x y : V} {b : Bool} (e : eqv p q = some b) (rp : RB K H φ M O p x) (rq : RB K H φ M O q y) : (scal x y = true ∧ decide (x = y) = b) ∨ ∃ d e, Dp K H x d ∧ Dp K H y e ∧ SeqAt.shaped d = true ∧ SeqAt.shaped e = true ∧ PyData.eqv d e = b := by
  unfold eqv at e
  split at e
  · obtain rfl := rp.int
    obtain rfl := rq.int
    cases e
    exact .inl ⟨rfl, by simp⟩
  · obtain rfl := rp.str
    obtain rfl := rq.str
    cases e
    exact .inl ⟨rfl, by simp⟩
  · obtain rfl := rp.bl
    obtain rfl := rq.bl
    cases e
    exact .inl ⟨rfl, by simp⟩
  · obtain rfl := rp.non
    obtain rfl := rq.non
    cases e
    exact .inl ⟨rfl, by simp⟩
  · obtain rfl := rp.non
    obtain rfl := rq.int
    cases e
    exact .inl ⟨rfl, by simp⟩
  · obtain rfl := rp.int
    obtain rfl := rq.non
    cases e
    exact .inl ⟨rfl, by simp⟩
  · obtain rfl := rp.non
    obtain rfl := rq.str
    cases e
    exact .inl ⟨rfl, by simp⟩
  · obtain rfl := rp.str
    obtain rfl := rq.non
    cases e
    exact .inl ⟨rfl, by simp⟩
  · obtain rfl := rp.int
    obtain rfl := rq.str
    cases e
    exact .inl ⟨rfl, by simp⟩
  · obtain rfl := rp.str
    obtain rfl := rq.int
    cases e
    exact .inl ⟨rfl, by simp⟩
  · split at e
    · rename_i hd
      cases e
      simp only [Bool.and_eq_true] at hd
      obtain ⟨⟨⟨d1, d2⟩, d3⟩, d4⟩ := hd
      exact .inr ⟨_, _, rp.dp d1, rq.dp d2, d3, d4, rfl⟩
    · cases e
theorem sr_eq : SimR K (rEqU K) (eqG id) := fun H φ S F O p q x y Q w hO rp rq h => by
  unfold eqG at h
  split at h
  · rename_i b e
    rcases eqv_ok e rp rq with ⟨h1, h2⟩ | ⟨d, e, h1, h2, h3, h4, h5⟩
    · exact .inl ⟨h1, by rw [h2]; exact h.ok w _ .bl⟩
    · exact .inr ⟨d, e, h1, h2, h3, h4, by rw [h5]; exact h.ok w _ .bl⟩
  · exact h.elim
theorem sr_ne : SimR K (rNeU K) (eqG not) := fun H φ S F O p q x y Q w hO rp rq h => by
  unfold eqG at h
  split at h
  · rename_i b e
    rcases eqv_ok e rp rq with ⟨h1, h2⟩ | ⟨d, e, h1, h2, h3, h4, h5⟩
    · exact .inl ⟨h1, by rw [h2]; exact h.ok w _ .bl⟩
    · exact .inr ⟨d, e, h1, h2, h3, h4, by rw [h5]; exact h.ok w _ .bl⟩
  · exact h.elim
/-! ### is -/
def isNon : PV → Bool
  | .non => true
  | _ => false
def isBl (b : Bool) : PV → Bool
  | .bl c => b == c
  | _ => false
theorem RB.isNon {p : PV} {x : V} (r : RB K H φ M O p x) : decide (x = .non) = isNon p := by
  rcases r with r | ⟨a, xs, vs, rfl, rfl, _⟩
  · cases r <;> rfl
  · rfl
theorem RB.isBl {b : Bool} {p : PV} {x : V} (r : RB K H φ M O p x) : decide (x = .bl b) = isBl b p := by
  rcases r with r | ⟨a, xs, vs, rfl, rfl, _⟩
  · cases r with
    | @bl c => cases b <;> cases c <;> rfl
    | _ => rfl
  · rfl
def isG (g : Bool → Bool) : PV → PV → AS → R PV := fun p q S => match q with
  | .non => .ok (.bl (g (isNon p))) S
  | .bl b => .ok (.bl (g (isBl b p))) S
  | _ => .stuck
theorem op_isU {X : Cx} : OpR X (compareOp .Is) (fun x y H Q => (y = .non ∧ Q (.bl (decide (x = .non))) H) ∨ Hk.rIsBo x y H Q) := op_isN.or Hk.op_isB
theorem sr_is : SimR K (fun x y H Q => (y = .non ∧ Q (.bl (decide (x = .non))) H) ∨ Hk.rIsBo x y H Q) (isG id) := fun H φ S F O p q x y Q w hO rp rq h => by
  unfold isG at h
  split at h
  · obtain rfl := rq.non
    exact .inl ⟨rfl, by rw [rp.isNon]; exact h.ok w _ .bl⟩
  · obtain rfl := rq.bl
    exact .inr ⟨_, rfl, by rw [rp.isBl]; exact h.ok w _ .bl⟩
  · exact h.elim
def notNG : PV → PV → AS → R PV := fun p q S => match q with
  | .non => .ok (.bl (!isNon p)) S
  | _ => .stuck
theorem sr_notN : SimR K (fun x y H Q => y = .non ∧ Q (.bl (!decide (x = .non))) H) notNG := fun H φ S F O p q x y Q w hO rp rq h => by
  unfold notNG at h
  split at h
  · obtain rfl := rq.non
    exact ⟨rfl, by rw [rp.isNon]; exact h.ok w _ .bl⟩
  · exact h.elim
end
end Fu

end
section
set_option Elab.async false
set_option linter.all false
set_option maxRecDepth 100000
set_option maxHeartbeats 4000000
namespace Fu
open PySem PySem.Spec PyProof.Rows L2
open He (ga)
section
variable {K : PySem.W.Frag} {pv : V × Option Addr} {E : XW} {F O : Addr → Prop} {H H' H1 H3 : Hp} {φ φ' φ1 : List Addr} {S S' S1 : AS} {M : Addr → Prop}
/-! ### in -/
def flat : PV → Bool
  | .non => true
  | .bl _ => true
  | .int _ => true
  | .str _ => true
  | _ => false
def eqF : PV → PV → Bool
  | .non, .non => true
  | .bl a, .bl b => a == b
  | .bl a, .int b => (if a then 1 else 0) == b
  | .int a, .bl b => a == (if b then 1 else 0)
  | .int a, .int b => a == b
  | .str a, .str b => a == b
  | _, _ => false
def mem (p : PV) (xs : List PV) : Bool := xs.any fun q => eqF q p
theorem RV.flat {p : PV} {v : V} (h : RV K H φ M p v) (f : Fu.flat p = true) : flatV v = true := by
  cases h <;> first | rfl | cases f
theorem RV.eqF {p q : PV} {v u : V} (h : RV K H φ M p v) (h2 : RV K H φ M q u) (f : Fu.flat p = true) (g : Fu.flat q = true) : eqV v u = Fu.eqF p q := by
  cases h <;> first | (cases f; done) | (cases h2 <;> first | (cases g; done) | rfl)
theorem RVs.flat {ps : List PV} {vs : List V} (h : RVs K H φ M ps vs) (f : ps.all Fu.flat = true) : vs.all flatV = true := by
  cases h with
  | nil => rfl
  | cons h r =>
    rw [List.all_cons, Bool.and_eq_true] at f ⊢
    exact ⟨h.flat f.1, r.flat f.2⟩
theorem RVs.mem {p : PV} {v : V} (h : RV K H φ M p v) (g : Fu.flat p = true) {ps : List PV} {vs : List V} (r : RVs K H φ M ps vs) (f : ps.all Fu.flat = true) : inV v vs = Fu.mem p ps := by
  cases r with
  | nil => rfl
  | cons h2 r =>
    rw [List.all_cons, Bool.and_eq_true] at f
    have e := RVs.mem h g r f.2
    unfold inV Fu.mem at e ⊢
    rw [List.any_cons, List.any_cons, h2.eqF h f.1 g, e]
def rInU (K : PySem.W.Frag) (neg : Bool) : R2 := fun x y H Q => rIn K neg x y H Q ∨ ∃ (c : Nat) (z : Str), x = .str ⟨#[c]⟩ ∧ y = .str z ∧ Q (.bl (if neg then !decide (c ∈ z.cps.toList) else decide (c ∈ z.cps.toList))) H
theorem op_inU {X : Cx} (h : X.K = K := by rfl) : OpR X (compareOp .In) (rInU K false) := by
  subst h
  exact op_in_seq.or op_in_sign
theorem op_notInU {X : Cx} (h : X.K = K := by rfl) : OpR X (compareOp .NotIn) (rInU K true) := by
  subst h
  exact op_notIn_seq.or op_notIn_sign
/-- the one sign of a text -/
def oneC : PV → Option Nat
  | .str ⟨⟨[c]⟩⟩ => some c
  | _ => none
theorem oneC_ok {p : PV} {c : Nat} (h : oneC p = some c) : p = .str ⟨#[c]⟩ := by
  unfold oneC at h
  split at h
  · cases h; rfl
  · cases h
def inG (neg : Bool) : PV → PV → AS → R PV := fun p q S => match q with
  | .lst xs => if flat p && xs.all flat then .ok (.bl (neg ^^ mem p xs)) S else .stuck
  | .kls xs => if flat p && xs.all flat then .ok (.bl (neg ^^ mem p xs)) S else .stuck
  | .tup xs => if flat p && xs.all flat then .ok (.bl (neg ^^ mem p xs)) S else .stuck
  | .ktu xs => if flat p && xs.all flat then .ok (.bl (neg ^^ mem p xs)) S else .stuck
  | .str z => match oneC p with
    | some c => .ok (.bl (neg ^^ decide (c ∈ z.cps.toList))) S
    | none => .stuck
  | _ => .stuck
theorem neg_if {neg b : Bool} : (if neg = true then !b else b) = (neg ^^ b) := by cases neg <;> cases b <;> rfl
theorem RB.rv {p : PV} {x : V} (r : RB K H φ M O p x) (f : flat p = true) : RV K H φ M p x := by
  rcases r with r | ⟨_, _, _, rfl, _⟩
  · exact r
  · cases f
theorem sr_in {neg : Bool} : SimR K (rInU K neg) (inG neg) := fun H φ S F O p q x y Q w hO rp rq h => by
  unfold inG at h
  split at h
  · split at h
    · rename_i xs hf
      rw [Bool.and_eq_true] at hf
      obtain ⟨a, vs, rfl, h1, r1⟩ := rq.lst
      have rv := rp.rv hf.1
      exact .inl ⟨a, vs, rfl, .inl (.inl (.inl h1)), rv.flat hf.1, r1.flat hf.2, by rw [r1.mem rv hf.1 hf.2, neg_if]; exact h.ok w _ .bl⟩
    · exact h.elim
  · split at h
    · rename_i xs hf
      rw [Bool.and_eq_true] at hf
      obtain ⟨a, vs, rfl, h1, r1⟩ := rq.kls
      have rv := rp.rv hf.1
      exact .inl ⟨a, vs, rfl, .inl h1, rv.flat hf.1, r1.flat hf.2, by rw [r1.mem rv hf.1 hf.2, neg_if]; exact h.ok w _ .bl⟩
    · exact h.elim
  · split at h
    · rename_i xs hf
      rw [Bool.and_eq_true] at hf
      obtain ⟨a, vs, rfl, h1, r1⟩ := rq.tup
      have rv := rp.rv hf.1
      exact .inl ⟨a, vs, rfl, .inr h1, rv.flat hf.1, r1.flat hf.2, by rw [r1.mem rv hf.1 hf.2, neg_if]; exact h.ok w _ .bl⟩
    · exact h.elim
  · split at h
    · rename_i xs hf
      rw [Bool.and_eq_true] at hf
      obtain ⟨a, vs, rfl, h1, r1⟩ := rq.ktu
      have rv := rp.rv hf.1
      exact .inl ⟨a, vs, rfl, .inr h1, rv.flat hf.1, r1.flat hf.2, by rw [r1.mem rv hf.1 hf.2, neg_if]; exact h.ok w _ .bl⟩
    · exact h.elim
  · split at h
    · rename_i z c e
      obtain rfl := oneC_ok e
      obtain rfl := rp.str
      obtain rfl := rq.str
      exact .inr ⟨c, _, rfl, rfl, by rw [neg_if]; exact h.ok w _ .bl⟩
    · exact h.elim
  · exact h.elim
/-! ### subscripts -/
theorem RVs.atI {ps : List PV} {vs : List V} (r : RVs K H φ M ps vs) {i : Int} {p : PV} (e : atI ps i = some p) : ∃ v, atI vs i = some v ∧ RV K H φ M p v := by
  unfold L2.atI at e ⊢
  rw [r.len]
  cases q : ixN ps.length i with
  | none => rw [q] at e; cases e
  | some j =>
    rw [q] at e
    obtain ⟨v, h1, h2⟩ := r.get (show ps[j]? = some p from e)
    exact ⟨v, h1, h2⟩
def ofO {α : Type} (o : Option α) (S : AS) : R α := match o with
  | some a => .ok a S
  | none => .stuck
@[simp] theorem ofO_some {α : Type} {a : α} {S : AS} : ofO (some a) S = .ok a S := rfl
def ixG : PV → PV → AS → R PV := fun p q S => match q with
  | .int i => match p with
    | .lst xs => ofO (atI xs i) S
    | .kls xs => ofO (atI xs i) S
    | .tup xs => ofO (atI xs i) S
    | .ktu xs => ofO (atI xs i) S
    | .str z => if z.length ≤ 1000000 then ofO ((atI z.cps.toList i).map fun c => .str ⟨#[c]⟩) S else .stuck
    | .ref n => match S[n]? with
      | some (some (.lst xs)) => ofO (atI xs i) S
      | _ => .stuck
    | _ => .stuck
  | _ => .stuck
theorem ix_U {X : Cx} (h : X.K = K := by rfl) : IxR X (rIx K) := by
  subst h
  exact ix_seq
theorem WF.lst (w : WF K H φ S F) {n : Nat} {xs : List PV} {a : Addr} (e : S[n]? = some (some (.lst xs))) (f : φ[n]? = some a) : ∃ vs, H a = some (.lst vs) ∧ RVs K H φ (uni (Lv φ S) F) xs vs := by
  obtain ⟨b, ho, h1, h2, h3⟩ := w.live n _ e
  rw [f] at h1
  cases h1
  cases h3 with
  | lst r => exact ⟨_, h2, r⟩
theorem ofO_go {α : Type} {E : XK} {o : Option α} {P : α → List Addr → AS → Hp → Prop} (w : WF K H φ S F) (h : GoE K E F H φ S (ofO o S) P) : ∃ a, o = some a ∧ P a φ S H := by
  cases o with
  | none => exact (show False from h).elim
  | some a => exact ⟨a, rfl, h.ok w⟩
theorem sr_ix : SimR K (rIx K) ixG := fun H φ S F O p q x y Q w hO rp rq h => by
  unfold ixG at h
  split at h
  · rename_i i
    obtain rfl := rq.int
    split at h
    · rename_i xs
      obtain ⟨a, vs, rfl, h1, r1⟩ := rp.lst
      obtain ⟨b, e, q⟩ := ofO_go w h
      obtain ⟨v, e1, rv⟩ := r1.atI e
      exact .inl ⟨a, vs, i, v, rfl, rfl, .inl (.inl h1), e1, q v rv⟩
    · rename_i xs
      obtain ⟨a, vs, rfl, h1, r1⟩ := rp.kls
      obtain ⟨b, e, q⟩ := ofO_go w h
      obtain ⟨v, e1, rv⟩ := r1.atI e
      exact .inl ⟨a, vs, i, v, rfl, rfl, h1, e1, q v rv⟩
    · rename_i xs
      obtain ⟨a, vs, rfl, h1, r1⟩ := rp.tup
      obtain ⟨b, e, q⟩ := ofO_go w h
      obtain ⟨v, e1, rv⟩ := r1.atI e
      exact .inr (.inl ⟨a, vs, i, v, rfl, rfl, h1, e1, q v rv⟩)
    · rename_i xs
      obtain ⟨a, vs, rfl, h1, r1⟩ := rp.ktu
      obtain ⟨b, e, q⟩ := ofO_go w h
      obtain ⟨v, e1, rv⟩ := r1.atI e
      exact .inr (.inl ⟨a, vs, i, v, rfl, rfl, h1, e1, q v rv⟩)
    · rename_i z
      split at h
      · rename_i hz
        obtain rfl := rp.str
        obtain ⟨b, e, q⟩ := ofO_go w h
        cases e2 : atI z.cps.toList i with
        | none => rw [e2] at e; cases e
        | some c =>
          rw [e2] at e
          cases e
          exact .inr (.inr ⟨z, i, c, rfl, rfl, million hz, e2, q _ .str⟩)
      · exact h.elim
    · rename_i n
      split at h
      · rename_i xs e0
        obtain ⟨a, rfl, ha⟩ := rp.ref
        obtain ⟨vs, h1, r1⟩ := w.lst e0 ha
        obtain ⟨b, e, q⟩ := ofO_go w h
        obtain ⟨v, e1, rv⟩ := r1.atI e
        exact .inl ⟨a, vs, i, v, rfl, rfl, .inl (.inl h1), e1, q v rv⟩
      · exact h.elim
    · exact h.elim
  · exact h.elim
/-! ### slices -/
def cut {α : Type} (xs : List α) (lo hi : Option Int) : List α := (xs.drop (HT.sIx xs.length 0 lo)).take (HT.sIx xs.length xs.length hi - HT.sIx xs.length 0 lo)
theorem RVs.cut {ps : List PV} {vs : List V} (r : RVs K H φ M ps vs) (lo hi : Option Int) : RVs K H φ M (cut ps lo hi) (cutV vs lo hi) := by
  unfold Fu.cut cutV
  rw [r.len]
  exact (r.drop _).take _
theorem cut_whole {α : Type} {xs : List α} {lo hi : Option Int} (h : HT.sIx xs.length 0 lo = 0 ∧ HT.sIx xs.length xs.length hi = xs.length) : cut xs lo hi = xs := by
  unfold cut
  rw [h.1, h.2, List.drop_zero, Nat.sub_zero, List.take_length]
def rSlU (K : PySem.W.Frag) : V → Option Int → Option Int → Hp → VK → Prop := fun x lo hi H Q => rSlA K x lo hi H Q ∨ rSlL K x lo hi H Q ∨ rSlS x lo hi H Q
theorem sl_U {X : Cx} (h : X.K = K := by rfl) : SlR X (rSlU K) := by
  subst h
  exact sl_tupA.or (sl_list.or sl_str)
def slG : PV → Option Int → Option Int → AS → R PV := fun p lo hi S => match p with
  | .tup xs => .ok (.tup (cut xs lo hi)) S
  | .ktu xs => if HT.sIx xs.length 0 lo = 0 ∧ HT.sIx xs.length xs.length hi = xs.length then .ok (.ktu xs) S else .ok (.tup (cut xs lo hi)) S
  | .lst xs => .ok (.lst (cut xs lo hi)) S
  | .kls xs => .ok (.lst (cut xs lo hi)) S
  | .str z => if z.length ≤ 1000000 then .ok (.str (cutS z lo hi)) S else .stuck
  | .ref n => match S[n]? with
    | some (some (.lst xs)) => .ok (.lst (cut xs lo hi)) S
    | _ => .stuck
  | _ => .stuck
theorem ssl_U : SimSl K (rSlU K) slG := fun H φ S F O p x lo hi Q w hO rp h => by
  unfold slG at h
  split at h
  · rename_i xs
    obtain ⟨a, vs, rfl, h1, r1⟩ := rp.tup
    refine .inl ⟨a, vs, rfl, h1, fun e => ?_, fun _ p hp => h.new w hp _ (.newTup w hp (r1.cut lo hi))⟩
    rw [r1.len] at e
    rw [cut_whole e] at h
    rcases rp with rp | ⟨_, _, _, z, _⟩
    · exact h.ok w _ rp
    · cases z
  · rename_i xs
    obtain ⟨a, vs, rfl, h1, r1⟩ := rp.ktu
    refine .inl ⟨a, vs, rfl, h1, fun e => ?_, fun e p hp => ?_⟩
    · rw [r1.len] at e
      rw [if_pos e] at h
      rcases rp with rp | ⟨_, _, _, z, _⟩
      · exact h.ok w _ rp
      · cases z
    · rw [r1.len] at e
      rw [if_neg e] at h
      exact h.new w hp _ (.newTup w hp (r1.cut lo hi))
  · rename_i xs
    obtain ⟨a, vs, rfl, h1, r1⟩ := rp.lst
    exact .inr (.inl ⟨a, vs, rfl, .inl (.inl h1), fun p hp => h.new w hp _ (.newLst w hp (r1.cut lo hi))⟩)
  · rename_i xs
    obtain ⟨a, vs, rfl, h1, r1⟩ := rp.kls
    exact .inr (.inl ⟨a, vs, rfl, h1, fun p hp => h.new w hp _ (.newLst w hp (r1.cut lo hi))⟩)
  · split at h
    · rename_i z hz
      obtain rfl := rp.str
      exact .inr (.inr ⟨z, rfl, million hz, h.ok w _ .str⟩)
    · exact h.elim
  · split at h
    · rename_i xs e0
      obtain ⟨a, rfl, ha⟩ := rp.ref
      obtain ⟨vs, h1, r1⟩ := w.lst e0 ha
      exact .inr (.inl ⟨a, vs, rfl, .inl (.inl h1), fun p hp => h.new w hp _ (.newLst w hp (r1.cut lo hi))⟩)
    · exact h.elim
  · exact h.elim
/-! ### calls of built-in functions -/
theorem RBs.one {p : PV} {xs : List V} (r : RBs K H φ M O [p] xs) : ∃ x, xs = [x] ∧ RB K H φ M O p x := by
  cases xs with
  | nil => exact r.elim
  | cons x xs =>
    cases xs with
    | nil => exact ⟨x, rfl, r.1⟩
    | cons y ys => exact r.2.elim
theorem RBs.two {p q : PV} {xs : List V} (r : RBs K H φ M O [p, q] xs) : ∃ x y, xs = [x, y] ∧ RB K H φ M O p x ∧ RB K H φ M O q y := by
  cases xs with
  | nil => exact r.elim
  | cons x xs =>
    obtain ⟨y, rfl, h⟩ := RBs.one r.2
    exact ⟨x, y, rfl, r.1, h⟩
/-- a value's items -/
def items : PV → AS → Option (List PV) := fun p S => match p with
  | .lst xs => some xs
  | .kls xs => some xs
  | .tup xs => some xs
  | .ktu xs => some xs
  | .ref n => match S[n]? with
    | some (some (.lst xs)) => some xs
    | _ => none
  | _ => none
theorem items_ok {p : PV} {x : V} {xs : List PV} (w : WF K H φ S F) (r : RB K H φ (uni (Lv φ S) F) O p x) (e : items p S = some xs) : ∃ a vs, x = .ref a ∧ (SqL K H a vs ∨ SqT K H a vs) ∧ RVs K H φ (uni (Lv φ S) F) xs vs := by
  unfold items at e
  split at e
  · cases e
    obtain ⟨a, vs, rfl, h1, r1⟩ := r.lst
    exact ⟨a, vs, rfl, .inl (.inl (.inl h1)), r1⟩
  · cases e
    obtain ⟨a, vs, rfl, h1, r1⟩ := r.kls
    exact ⟨a, vs, rfl, .inl h1, r1⟩
  · cases e
    obtain ⟨a, vs, rfl, h1, r1⟩ := r.tup
    exact ⟨a, vs, rfl, .inr h1, r1⟩
  · cases e
    obtain ⟨a, vs, rfl, h1, r1⟩ := r.ktu
    exact ⟨a, vs, rfl, .inr h1, r1⟩
  · split at e
    · rename_i e0
      cases e
      obtain ⟨a, rfl, ha⟩ := r.ref
      obtain ⟨vs, h1, r1⟩ := w.lst e0 ha
      exact ⟨a, vs, rfl, .inl (.inl (.inl h1)), r1⟩
    · cases e
  · cases e
def rLenU (K : PySem.W.Frag) : List V → Hp → VK → Prop := fun xs H Q => ∃ x n, xs = [x] ∧ LenV K x H n ∧ Q (.int n) H
theorem call_lenU {X : Cx} (h : X.K = K := by rfl) : CallR X (.builtin "len") (rLenU K) := by
  subst h
  exact call_len
def lenG : List PV → AS → R PV := fun ps S => match ps with
  | [.str z] => if z.length ≤ 1000000 then .ok (.int z.length) S else .stuck
  | [p] => match items p S with
    | some xs => .ok (.int xs.length) S
    | none => .stuck
  | _ => .stuck
theorem sc_len : SimC K (rLenU K) lenG := fun H φ S F O ps xs Q w hO r h => by
  unfold lenG at h
  split at h
  · split at h
    · rename_i z hz
      obtain ⟨x, rfl, r'⟩ := r.one; replace r := r'
      obtain rfl := r.str
      exact ⟨_, _, rfl, ⟨million hz, rfl⟩, h.ok w _ .int⟩
    · exact h.elim
  · split at h
    · rename_i e
      obtain ⟨x, rfl, r'⟩ := r.one; replace r := r'
      obtain ⟨a, vs, rfl, h1, r1⟩ := items_ok w r e
      exact ⟨_, vs.length, rfl, h1.imp (fun z => ⟨vs, z, rfl⟩) fun z => ⟨vs, z, rfl⟩, by rw [r1.len]; exact h.ok w _ .int⟩
    · exact h.elim
  · exact h.elim
def absG : List PV → AS → R PV := fun ps S => match ps with
  | [.int i] => .ok (.int (if i < 0 then -i else i)) S
  | _ => .stuck
theorem sc_abs : SimC K (fun xs H Q => ∃ i, xs = [.int i] ∧ Q (.int (if i < 0 then -i else i)) H) absG := fun H φ S F O ps xs Q w hO r h => by
  unfold absG at h
  split at h
  · obtain ⟨x, rfl, r'⟩ := r.one; replace r := r'
    obtain rfl := r.int
    exact ⟨_, rfl, h.ok w _ .int⟩
  · exact h.elim
def intC : List PV → AS → R PV := fun ps S => match ps with
  | [.int i] => .ok (.int i) S
  | [.bl b] => .ok (.int (if b then 1 else 0)) S
  | _ => .stuck
theorem sc_int : SimC K (fun xs H Q => (∃ i, xs = [.int i] ∧ Q (.int i) H) ∨ ∃ k, xs = [.bl k] ∧ Q (.int (if k then 1 else 0)) H) intC := fun H φ S F O ps xs Q w hO r h => by
  unfold intC at h
  split at h
  · obtain ⟨x, rfl, r'⟩ := r.one; replace r := r'
    obtain rfl := r.int
    exact .inl ⟨_, rfl, h.ok w _ .int⟩
  · obtain ⟨x, rfl, r'⟩ := r.one; replace r := r'
    obtain rfl := r.bl
    exact .inr ⟨_, rfl, h.ok w _ .int⟩
  · exact h.elim
def rListU (K : PySem.W.Frag) : List V → Hp → VK → Prop := fun xs H Q => ∃ p ys, xs = [.ref p] ∧ (SqL K H p ys ∨ SqT K H p ys) ∧ ∀ l, H l = none → Q (.ref l) (upd H l (.lst ys))
theorem call_listU {X : Cx} (h : X.K = K := by rfl) : CallR X (.type "list") (rListU K) := by
  subst h
  exact call_list_of
def listN (f : FA) : FN := fun η S => (f η S).bind fun ps S => match ps with
  | [p] => ofO (items p S) S
  | _ => .stuck
theorem sn_list {t : TA} {f : FA} (a : SimAB K pv E t f) : SimN K pv E (tCB (rListU K) t) (listN f) := fun H φ S F O η σ Q w hO re h => by
  refine a H φ S F O η σ _ w hO re (h.bind.imp fun ps φ1 S1 H1 e1 w1 h1 xs rs => ?_)
  split at h1
  · rename_i p
    obtain ⟨x, rfl, r⟩ := rs.one
    cases e : items p S1 with
    | none => rw [e] at h1; exact (show False from h1).elim
    | some ys =>
      rw [e] at h1
      obtain ⟨b, vs, rfl, h2, r1⟩ := items_ok w1 r e
      exact ⟨b, vs, rfl, h2, fun l hl => GoE.lay (E' := E σ) w1 r1 hl e1.stay h1⟩
  · exact h1.elim
def rTupU (K : PySem.W.Frag) : List V → Hp → VK → Prop := fun xs H Q => ∃ p ys, xs = [.ref p] ∧ ((SqL K H p ys ∧ ∀ l, H l = none → Q (.ref l) (upd H l (.tup ys))) ∨ (SqT K H p ys ∧ Q (.ref p) H))
theorem call_tupU {X : Cx} (h : X.K = K := by rfl) : CallR X (.type "tuple") (rTupU K) := by
  subst h
  exact call_tuple_of
/-- a list's items -/
def litems : PV → AS → Option (List PV) := fun p S => match p with
  | .lst xs => some xs
  | .kls xs => some xs
  | .ref n => match S[n]? with
    | some (some (.lst xs)) => some xs
    | _ => none
  | _ => none
theorem litems_ok {p : PV} {x : V} {xs : List PV} (w : WF K H φ S F) (r : RB K H φ (uni (Lv φ S) F) O p x) (e : litems p S = some xs) : ∃ a vs, x = .ref a ∧ SqL K H a vs ∧ RVs K H φ (uni (Lv φ S) F) xs vs := by
  unfold litems at e
  split at e
  · cases e
    obtain ⟨a, vs, rfl, h1, r1⟩ := r.lst
    exact ⟨a, vs, rfl, .inl (.inl h1), r1⟩
  · cases e
    obtain ⟨a, vs, rfl, h1, r1⟩ := r.kls
    exact ⟨a, vs, rfl, h1, r1⟩
  · split at e
    · rename_i e0
      cases e
      obtain ⟨a, rfl, ha⟩ := r.ref
      obtain ⟨vs, h1, r1⟩ := w.lst e0 ha
      exact ⟨a, vs, rfl, .inl (.inl h1), r1⟩
    · cases e
  · cases e
def tupG1 : List PV → AS → R PV := fun ps S => match ps with
  | [.tup xs] => .ok (.tup xs) S
  | [p] => match litems p S with
    | some xs => .ok (.tup xs) S
    | none => .stuck
  | _ => .stuck
theorem sc_tup : SimC K (rTupU K) tupG1 := fun H φ S F O ps xs Q w hO r h => by
  unfold tupG1 at h
  split at h
  · obtain ⟨x, rfl, r'⟩ := r.one; replace r := r'
    obtain ⟨a, vs, rfl, h1, r1⟩ := r.tup
    refine ⟨a, vs, rfl, .inr ⟨h1, ?_⟩⟩
    rcases r with r | ⟨_, _, _, z, _⟩
    · exact h.ok w _ r
    · cases z
  · split at h
    · rename_i e
      obtain ⟨x, rfl, r'⟩ := r.one; replace r := r'
      obtain ⟨a, vs, rfl, h1, r1⟩ := litems_ok w r e
      exact ⟨a, vs, rfl, .inl ⟨h1, fun l hl => h.new w hl _ (.newTup w hl r1)⟩⟩
    · exact h.elim
  · exact h.elim
end
end Fu

end
section
set_option Elab.async false
set_option linter.all false
set_option maxRecDepth 100000
set_option maxHeartbeats 4000000
namespace Fu
open PySem PySem.Spec PyProof.Rows L2
open He (ga)
section
variable {K : PySem.W.Frag} {pv : V × Option Addr} {E : XW} {F O : Addr → Prop} {H H' H1 H3 : Hp} {φ φ' φ1 : List Addr} {S S' S1 : AS} {M : Addr → Prop} {η : Sls} {σ : L2.St}
/-! ### what is walked -/
theorem SqL.at {H' : Hp} {a : Addr} {vs : List V} (r : SqL K H a vs) (h : H a ≠ none → H' a = H a) : SqL K H' a vs := by
  rcases r with (r | ⟨o, r⟩) | r
  · exact .inl (.inl ((h (by rw [r]; nofun)).trans r))
  · exact .inl (.inr ⟨o, (h (by rw [r]; nofun)).trans r⟩)
  · exact .inr r
theorem SqT.at {H' : Hp} {a : Addr} {vs : List V} (r : SqT K H a vs) (h : H a ≠ none → H' a = H a) : SqT K H' a vs := by
  rcases r with (r | ⟨o, r⟩) | r
  · exact .inl (.inl ((h (by rw [r]; nofun)).trans r))
  · exact .inl (.inr ⟨o, (h (by rw [r]; nofun)).trans r⟩)
  · exact .inr r
/-- a walk whose turns leave the heap, its items the list's -/
theorem walks_of {J : It} {ps : List PV} {vs : List V} (r : RVs K H φ M ps vs) (h : ∀ H', (∀ a, H a ≠ none → ¬ M a → H' a = H a) → (∀ (i : Nat) x, vs[i]? = some x → J.go i H' ∧ ∀ y H3, J.yld i H' y H3 → H3 = H' ∧ y = x) ∧ J.stop vs.length H') : Walks K J ps H φ M := fun H' φ' M' k g hm => by
  obtain ⟨h1, h2⟩ := h H' fun a x m => (k a x m).1
  refine ⟨fun i p e => ?_, by rw [← r.len]; exact h2⟩
  obtain ⟨v, e1, rv⟩ := r.get e
  obtain ⟨h3, h4⟩ := h1 i v e1
  refine ⟨h3, fun x H3 hy => ?_⟩
  obtain ⟨rfl, rfl⟩ := h4 x H3 hy
  exact ⟨fun _ _ => rfl, rv.mono k g⟩
theorem walks_list {a : Addr} {ps : List PV} {vs : List V} (r : RVs K H φ M ps vs) (hl : ∀ H', (∀ a, H a ≠ none → ¬ M a → H' a = H a) → SqL K H' a vs) : Walks K (Itl K a) ps H φ M := walks_of r fun H' k => by
  have h := hl H' k
  refine ⟨fun i x e => ⟨⟨vs, x, h, e⟩, fun y H3 hy => ?_⟩, ⟨vs, h, Nat.le_refl _⟩⟩
  obtain ⟨rfl, hy⟩ := hy
  have := hy vs h
  rw [e] at this
  exact ⟨rfl, (Option.some.inj this).symm⟩
theorem walks_tup {a : Addr} {ps : List PV} {vs : List V} (r : RVs K H φ M ps vs) (hl : ∀ H', (∀ a, H a ≠ none → ¬ M a → H' a = H a) → SqT K H' a vs) : Walks K (Itt K a) ps H φ M := walks_of r fun H' k => by
  have h := hl H' k
  refine ⟨fun i x e => ⟨⟨vs, x, h, e⟩, fun y H3 hy => ?_⟩, ⟨vs, h, Nat.le_refl _⟩⟩
  obtain ⟨rfl, hy⟩ := hy
  have := hy vs h
  rw [e] at this
  exact ⟨rfl, (Option.some.inj this).symm⟩
/-- a list, a tuple, a text that is walked -/
def iAny (K : PySem.W.Frag) (te : TE) : TI := fun σ H R => te σ H fun x H1 => (∃ a, x = .ref a ∧ ((∃ xs, SqL K H1 a xs) ∧ R (Itl K a) H1 ∨ (∃ xs, SqT K H1 a xs) ∧ R (Itt K a) H1)) ∨ ∃ z, x = .str z ∧ R (Its z) H1
theorem pi_any {X : Cx} {tg l : Expr} {tl : TE} (hl : PE X l tl) (hK : X.K = K := by rfl) : PI X tg l (iAny K tl) := by
  subst hK
  refine ⟨fun pins s σ H R I h => ?_⟩
  refine thn (hl.run pins s σ H _ I h) fun v s1 ⟨x, H1, I1, r1, q1⟩ => ?_
  have one : ∀ {ti : TI} {te : TE} , PI X tg l ti → True := fun _ => trivial
  rcases q1 with ⟨a, e, ⟨⟨xs, hq⟩, q⟩ | ⟨⟨xs, hq⟩, q⟩⟩ | ⟨z, e, q⟩
  · subst e
    cases r1
    obtain ⟨its, rv, p, hz⟩ := I1.list hq
    refine wpAny_pyIter_list p.isList ?_
    refine ⟨s1.heap.objs.size, [s1.heap.objs.size], _, _, H1, rfl, I1.kept (t' := s1.toks) fun b o e => Heap.get?_push_of_some _ e, turn_list a _, ⟨_, Heap.get?_push_size _ rfl, rfl, rfl⟩, fun b hb => ?_, q⟩
    have e : b = s1.heap.objs.size := by simpa using hb
    subst e
    exact I1.fpOk (Nat.le_refl _) (I1.hok.fresh (Nat.le_refl _))
  · subst e
    cases r1
    obtain ⟨its, rv, p, hz⟩ := I1.tuple hq
    refine wpAny_pyIter_tuple (show s1.heap.IsTuple a its.toArray from p) ?_
    refine ⟨s1.heap.objs.size, [s1.heap.objs.size], _, _, H1, rfl, I1.kept (t' := s1.toks) fun b o e => Heap.get?_push_of_some _ e, turn_tuple a _, ⟨_, Heap.get?_push_size _ rfl, rfl, rfl⟩, fun b hb => ?_, q⟩
    have e : b = s1.heap.objs.size := by simpa using hb
    subst e
    exact I1.fpOk (Nat.le_refl _) (I1.hok.fresh (Nat.le_refl _))
  · subst e
    obtain ⟨t, rfl⟩ := r1
    cases ha : z.cps.all (· < 128)
    · exact wpAny_pyIter_wide ha (pi_one (tk := s1.toks) I1 _ (turn_str _ z t "str_iterator" (.inr rfl)) ⟨_, Heap.get?_push_size _ rfl, rfl, rfl⟩ q)
    · exact wpAny_pyIter_ascii ha (pi_one (tk := s1.toks) I1 _ (turn_str _ z t "str_ascii_iterator" (.inl rfl)) ⟨_, Heap.get?_push_size _ rfl, rfl, rfl⟩ q)
/-- the items of what is walked and stands still -/
def witems : PV → Option (List PV)
  | .lst xs => some xs
  | .kls xs => some xs
  | .tup xs => some xs
  | .ktu xs => some xs
  | .str z => some (z.cps.toList.map fun c => .str ⟨#[c]⟩)
  | _ => none
def anyI (f : FE) : FI := fun η S => (f η S).bind fun p S => ofO (witems p) S
theorem rvs_chars (cs : List Nat) : RVs K H φ M (cs.map fun c => .str ⟨#[c]⟩) (cs.map fun c => V.str ⟨#[c]⟩) := by
  induction cs with
  | nil => exact .nil
  | cons c cs ih => exact .cons .str ih
theorem keep_of {a : Addr} {vs : List V} (h : H a = some (.lst vs)) (m : ¬ M a) {H' : Hp} (k : ∀ a, H a ≠ none → ¬ M a → H' a = H a) : H' a = some (.lst vs) := (k a (by rw [h]; nofun) m).trans h
theorem lsI_at {a : Addr} {vs : List V} (h : LsI H M a vs) {H' : Hp} (k : ∀ a, H a ≠ none → ¬ M a → H' a = H a) : SqL K H' a vs := .inl (.inl (keep_of h.1 h.2 k))
theorem klI_at {a : Addr} {vs : List V} (h : KlI K H M a vs) {H' : Hp} (k : ∀ a, H a ≠ none → ¬ M a → H' a = H a) : SqL K H' a vs := by
  rcases h with ⟨⟨o, h⟩, m⟩ | h
  · exact .inl (.inr ⟨o, (k a (by rw [h]; nofun) m).trans h⟩)
  · exact .inr h
theorem tpI_at {a : Addr} {vs : List V} (h : TpI H M a vs) {H' : Hp} (k : ∀ a, H a ≠ none → ¬ M a → H' a = H a) : SqT K H' a vs := .inl (.inl ((k a (by rw [h.1]; nofun) h.2).trans h.1))
theorem ktI_at {a : Addr} {vs : List V} (h : KtI K H M a vs) {H' : Hp} (k : ∀ a, H a ≠ none → ¬ M a → H' a = H a) : SqT K H' a vs := by
  rcases h with ⟨⟨o, h⟩, m⟩ | h
  · exact .inl (.inr ⟨o, (k a (by rw [h]; nofun) m).trans h⟩)
  · exact .inr h
theorem si_any {te : TE} {f : FE} (s : SimE K pv E te f) : SimI K pv E (iAny K te) (anyI f) := fun H φ S F O η σ R w hO re h => by
  refine s H φ S F O η σ _ w hO re (h.bind.imp fun p φ1 S1 H1 e1 w1 h1 v rv => ?_)
  obtain ⟨ps, e, q⟩ := ofO_go w1 h1
  unfold witems at e
  split at e
  · cases e
    cases rv with
    | lst hl r => exact .inl ⟨_, rfl, .inl ⟨⟨_, hl.sq⟩, q _ (walks_list r fun H' k => lsI_at hl k)⟩⟩
  · cases e
    cases rv with
    | kls hl r => exact .inl ⟨_, rfl, .inl ⟨⟨_, hl.sq⟩, q _ (walks_list r fun H' k => klI_at hl k)⟩⟩
  · cases e
    cases rv with
    | tup hl r => exact .inl ⟨_, rfl, .inr ⟨⟨_, hl.sq⟩, q _ (walks_tup r fun H' k => tpI_at hl k)⟩⟩
  · cases e
    cases rv with
    | ktu hl r => exact .inl ⟨_, rfl, .inr ⟨⟨_, hl.sq⟩, q _ (walks_tup r fun H' k => ktI_at hl k)⟩⟩
  · rename_i z
    cases e
    cases rv with
    | str =>
      refine .inr ⟨z, rfl, q _ (walks_of (rvs_chars _) fun H' k => ⟨fun i x hx => ?_, ?_⟩)⟩
      · rw [List.getElem?_map] at hx
        cases e2 : z.cps.toList[i]? with
        | none => rw [e2] at hx; cases hx
        | some c =>
          rw [e2] at hx
          cases hx
          have e3 : z.cps[i]? = some c := by simpa using e2
          refine ⟨(Array.getElem?_eq_some_iff.mp e3).1, fun y H3 ⟨h1, c', h2, h3⟩ => ⟨h1, ?_⟩⟩
          rw [e3] at h2
          cases h2
          exact h3
      · show z.cps.size ≤ _
        simp
  · cases e
/-- lo, lo + 1, .. -/
def rangeL (lo : Int) (n : Nat) : List PV := (List.range n).map fun i => .int (lo + (i : Nat))
def range1I (f : FA) : FI := fun η S => (f η S).bind fun ps S => match ps with
  | [.int j] => if -(2 ^ 62) ≤ j ∧ j < 2 ^ 62 then .ok (rangeL 0 j.toNat) S else .stuck
  | _ => .stuck
def range2I (f : FA) : FI := fun η S => (f η S).bind fun ps S => match ps with
  | [.int i, .int j] => if -(2 ^ 62) ≤ i ∧ i < 2 ^ 62 ∧ -(2 ^ 62) ≤ j ∧ j < 2 ^ 62 then .ok (rangeL i (j - i).toNat) S else .stuck
  | _ => .stuck
theorem rvs_range (lo : Int) (n : Nat) : RVs K H φ M (rangeL lo n) ((List.range n).map fun i => V.int (lo + (i : Nat))) := by
  unfold rangeL
  induction List.range n with
  | nil => exact .nil
  | cons c cs ih => exact .cons .int ih
theorem walks_range {lo : Int} {n : Nat} : Walks K (Itr lo n) (rangeL lo n) H φ M := walks_of (rvs_range lo n) fun H' k => ⟨fun i x hx => by
  rw [List.getElem?_map] at hx
  cases e2 : (List.range n)[i]? with
  | none => rw [e2] at hx; cases hx
  | some c =>
    rw [e2] at hx
    cases hx
    obtain ⟨h1, h2⟩ := List.getElem?_eq_some_iff.mp e2
    rw [List.getElem_range] at h2
    subst h2
    exact ⟨by
      show i < n
      simpa using h1, fun y H3 ⟨q1, q2⟩ => ⟨q1, q2⟩⟩, by
  show n ≤ _
  simp⟩
theorem si_range1 {t : TA} {f : FA} (s : SimAB K pv E t f) : SimI K pv E (iRng1 t) (range1I f) := fun H φ S F O η σ R w hO re h => by
  refine s H φ S F O η σ _ w hO re (h.bind.imp fun ps φ1 S1 H1 e1 w1 h1 vs rs => ?_)
  split at h1
  · split at h1
    · rename_i hl
      obtain ⟨x, rfl, r⟩ := rs.one
      obtain rfl := r.int
      exact ⟨_, rfl, hl.1, hl.2, h1.ok w1 _ walks_range⟩
    · exact h1.elim
  · exact h1.elim
theorem si_range2 {t : TA} {f : FA} (s : SimAB K pv E t f) : SimI K pv E (iRng2 t) (range2I f) := fun H φ S F O η σ R w hO re h => by
  refine s H φ S F O η σ _ w hO re (h.bind.imp fun ps φ1 S1 H1 e1 w1 h1 vs rs => ?_)
  split at h1
  · split at h1
    · rename_i hl
      obtain ⟨x, y, rfl, r, r2⟩ := rs.two
      obtain rfl := r.int
      obtain rfl := r2.int
      exact ⟨_, _, rfl, hl, h1.ok w1 _ walks_range⟩
    · exact h1.elim
  · exact h1.elim
/-! ### live objects -/
theorem lv_set {n : Nat} {o o' : AO} (e : S[n]? = some (some o)) : ∀ a, Lv φ (S.set n (some o')) a ↔ Lv φ S a := fun a => by
  have hn : n < S.length := (List.getElem?_eq_some_iff.mp e).1
  constructor
  · rintro ⟨m, u, h1, h2⟩
    by_cases q : n = m
    · subst q
      exact ⟨n, o, e, h2⟩
    · rw [List.getElem?_set_ne q] at h1
      exact ⟨m, u, h1, h2⟩
  · rintro ⟨m, u, h1, h2⟩
    by_cases q : n = m
    · subst q
      exact ⟨n, o', by rw [List.getElem?_set, if_pos rfl, if_pos hn], h2⟩
    · exact ⟨m, u, by rw [List.getElem?_set_ne q]; exact h1, h2⟩
/-- a live object changed -/
theorem WF.put (w : WF K H φ S F) {n : Nat} {a : Addr} {o o' : AO} {ho : HO} (e : S[n]? = some (some o)) (f : φ[n]? = some a) (r : RO K H φ (uni (Lv φ S) F) o' ho) :
    WF K (upd H a ho) φ (S.set n (some o')) F ∧ Ev H φ (Lv φ S) (upd H a ho) φ (Lv φ (S.set n (some o'))) := by
  have hn : n < S.length := (List.getElem?_eq_some_iff.mp e).1
  have la : Lv φ S a := ⟨n, o, e, f⟩
  have lv : ∀ b, uni (Lv φ (S.set n (some o'))) F b ↔ uni (Lv φ S) F b := fun b => or_congr (lv_set e b) Iff.rfl
  have k : ∀ b, H b ≠ none → ¬ uni (Lv φ S) F b → upd H a ho b = H b ∧ ¬ uni (Lv φ (S.set n (some o'))) F b := fun b h m => ⟨upd_ne fun z => m (.inl (by rw [z]; exact la)), fun z => m ((lv b).mp z)⟩
  have st : ∀ b, H b ≠ none → upd H a ho b ≠ none := fun b h => by
    by_cases q : b = a
    · subst q; rw [upd_same]; nofun
    · rw [upd_ne q]; exact h
  refine ⟨⟨by rw [List.length_set]; exact w.len, fun m u h => ?_, fun m l b u u' h1 h2 h3 h4 => ?_, fun b h => ?_⟩, ⟨st, fun b h m => ⟨upd_ne fun z => m (by rw [z]; exact la), fun z => m ((lv_set e b).mp z)⟩, fun _ _ h => h⟩⟩
  · by_cases q : n = m
    · subst q
      rw [List.getElem?_set, if_pos rfl, if_pos hn] at h
      cases h
      exact ⟨a, ho, f, upd_same, r.mono k fun _ _ h => h⟩
    · rw [List.getElem?_set_ne q] at h
      obtain ⟨b, hb, h1, h2, h3⟩ := w.live m u h
      have ne : b ≠ a := fun z => q (w.inj n m a o u e h f (by rw [← z]; exact h1))
      exact ⟨b, hb, h1, (upd_ne ne).trans h2, h3.mono k fun _ _ h => h⟩
  · have fix : ∀ {l : Nat} {u}, (S.set n (some o'))[l]? = some (some u) → ∃ u, S[l]? = some (some u) := fun {l u} h => by
      by_cases q : n = l
      · subst q; exact ⟨o, e⟩
      · rw [List.getElem?_set_ne q] at h; exact ⟨u, h⟩
    obtain ⟨_, q1⟩ := fix h1
    obtain ⟨_, q2⟩ := fix h2
    exact w.inj m l b _ _ q1 q2 h3 h4
  · obtain ⟨h1, h2⟩ := w.away b h
    exact ⟨st b h1, fun z => h2 ((lv_set e b).mp z)⟩
/-- a new live object -/
theorem WF.alloc {p : Addr} {o : AO} {ho : HO} (w : WF K H φ S F) (hp : H p = none) (r : RO K H φ (uni (Lv φ S) F) o ho) :
    WF K (upd H p ho) (φ ++ [p]) (S ++ [some o]) F ∧ Ev H φ (Lv φ S) (upd H p ho) (φ ++ [p]) (Lv (φ ++ [p]) (S ++ [some o])) := by
  have pre : ∀ (n : Nat) a, φ[n]? = some a → (φ ++ [p])[n]? = some a := fun n a h => by rw [List.getElem?_append_left (List.getElem?_eq_some_iff.mp h).1]; exact h
  have lv : ∀ a, Lv (φ ++ [p]) (S ++ [some o]) a → Lv φ S a ∨ a = p := fun a ⟨n, u, h1, h2⟩ => by
    by_cases q : n < S.length
    · rw [List.getElem?_append_left q] at h1
      rw [List.getElem?_append_left (by rw [w.len]; exact q)] at h2
      exact .inl ⟨n, u, h1, h2⟩
    · rw [List.getElem?_append_right (by rw [w.len]; omega)] at h2
      have hl : n - φ.length = 0 := by
        have := (List.getElem?_eq_some_iff.mp h2).1
        simp at this
        omega
      rw [hl] at h2
      simp at h2
      exact .inr h2.symm
  have st : ∀ b, H b ≠ none → upd H p ho b ≠ none := fun b h => by rw [upd_ne fun z => h (by rw [z]; exact hp)]; exact h
  have k : ∀ a, H a ≠ none → ¬ uni (Lv φ S) F a → upd H p ho a = H a ∧ ¬ uni (Lv (φ ++ [p]) (S ++ [some o])) F a := fun a h m => by
    have ne : a ≠ p := fun z => h (by rw [z]; exact hp)
    exact ⟨upd_ne ne, fun z => z.elim (fun z => (lv a z).elim (fun z => m (.inl z)) ne) fun z => m (.inr z)⟩
  refine ⟨⟨by rw [List.length_append, List.length_append, w.len]; rfl, fun n u h => ?_, fun n m a u u' h1 h2 h3 h4 => ?_, fun a h => ?_⟩, ⟨st, fun a h m => ?_, pre⟩⟩
  · by_cases q : n < S.length
    · rw [List.getElem?_append_left q] at h
      obtain ⟨a, hb, h1, h2, h3⟩ := w.live n u h
      exact ⟨a, hb, pre n a h1, (upd_ne fun z => by rw [z, hp] at h2; cases h2).trans h2, h3.mono k pre⟩
    · rw [List.getElem?_append_right (by omega)] at h
      have hl : n - S.length = 0 := by
        have := (List.getElem?_eq_some_iff.mp h).1
        simp at this
        omega
      rw [hl] at h
      simp at h
      subst h
      refine ⟨p, ho, ?_, upd_same, r.mono k pre⟩
      rw [List.getElem?_append_right (by rw [w.len]; omega), w.len, hl]
      rfl
  · have big : ∀ {n : Nat} {a : Addr}, ¬ n < S.length → (φ ++ [p])[n]? = some a → n = S.length ∧ a = p := fun {n a} q h => by
      rw [List.getElem?_append_right (by rw [w.len]; omega)] at h
      have hl : n - φ.length = 0 := by
        have := (List.getElem?_eq_some_iff.mp h).1
        simp at this
        omega
      rw [hl] at h
      simp at h
      have := w.len
      exact ⟨by omega, h.symm⟩
    have small : ∀ {n : Nat} {a : Addr} {u : AO}, n < S.length → (S ++ [some o])[n]? = some (some u) → (φ ++ [p])[n]? = some a → S[n]? = some (some u) ∧ φ[n]? = some a ∧ a ≠ p := fun {n a u} q h h2 => by
      rw [List.getElem?_append_left q] at h
      rw [List.getElem?_append_left (by rw [w.len]; exact q)] at h2
      refine ⟨h, h2, fun z => ?_⟩
      obtain ⟨b, hb, e1, e2, _⟩ := w.live n u h
      rw [h2] at e1
      cases e1
      rw [z, hp] at e2
      cases e2
    by_cases q : n < S.length
    · obtain ⟨a1, a2, a3⟩ := small q h1 h3
      by_cases q2 : m < S.length
      · obtain ⟨b1, b2, b3⟩ := small q2 h2 h4
        exact w.inj n m a _ _ a1 b1 a2 b2
      · exact (a3 (big q2 h4).2).elim
    · by_cases q2 : m < S.length
      · obtain ⟨b1, b2, b3⟩ := small q2 h2 h4
        exact (b3 (big q h3).2).elim
      · rw [(big q h3).1, (big q2 h4).1]
  · obtain ⟨h1, h2⟩ := w.away a h
    exact ⟨st a h1, fun z => (lv a z).elim h2 fun z => h1 (by rw [z]; exact hp)⟩
  · have ne : a ≠ p := fun z => h (by rw [z]; exact hp)
    exact ⟨upd_ne ne, fun z => (lv a z).elim m ne⟩
end
end Fu

end
section
set_option Elab.async false
set_option linter.all false
set_option maxRecDepth 100000
set_option maxHeartbeats 4000000
namespace Fu
open PySem PySem.Spec PyProof.Rows L2
open He (ga)
section
variable {K : PySem.W.Frag} {pv : V × Option Addr} {E : XW} {F O : Addr → Prop} {H H' H1 H3 : Hp} {φ φ' φ1 : List Addr} {S S' S1 : AS} {M : Addr → Prop} {η : Sls} {σ : L2.St}
/-! ### live lists -/
/-- a new list kept live -/
def liveF (f : FN) : FE := fun η S => match f η S with
  | .ok xs S' => .ok (.ref S'.length) (S' ++ [some (.lst xs)])
  | .exc c fs S' => .exc c fs S'
  | .stuck => .stuck
theorem WF.adopt {p : Addr} {o : AO} {ho : HO} (w : WF K H φ S (uni F (at1 p))) (hF : ¬ F p) (hp : H p = some ho) (r : RO K H φ (uni (Lv φ S) (uni F (at1 p))) o ho) : WF K H (φ ++ [p]) (S ++ [some o]) F := by
  have pre : ∀ (n : Nat) a, φ[n]? = some a → (φ ++ [p])[n]? = some a := fun n a h => by rw [List.getElem?_append_left (List.getElem?_eq_some_iff.mp h).1]; exact h
  have np : ¬ Lv φ S p := (w.away p (.inr rfl)).2
  have cas : ∀ {n : Nat} {a : Addr} {u : AO}, (S ++ [some o])[n]? = some (some u) → (φ ++ [p])[n]? = some a → (S[n]? = some (some u) ∧ φ[n]? = some a) ∨ (n = S.length ∧ a = p ∧ u = o) := fun {n a u} h1 h2 => by
    by_cases q : n < S.length
    · rw [List.getElem?_append_left q] at h1
      rw [List.getElem?_append_left (by rw [w.len]; exact q)] at h2
      exact .inl ⟨h1, h2⟩
    · have hn : n = S.length := by
        have := (List.getElem?_eq_some_iff.mp h1).1
        simp at this
        omega
      subst hn
      rw [List.getElem?_append_right (Nat.le_refl _)] at h1
      rw [List.getElem?_append_right (by rw [w.len]; exact Nat.le_refl _)] at h2
      simp [w.len] at h1 h2
      exact .inr ⟨rfl, h2.symm, h1.symm⟩
  have lv : ∀ a, Lv (φ ++ [p]) (S ++ [some o]) a → Lv φ S a ∨ a = p := fun a ⟨n, u, h1, h2⟩ => (cas h1 h2).imp (fun z => ⟨n, u, z.1, z.2⟩) fun z => z.2.1
  have k : ∀ a, H a ≠ none → ¬ uni (Lv φ S) (uni F (at1 p)) a → H a = H a ∧ ¬ uni (Lv (φ ++ [p]) (S ++ [some o])) F a := fun a h m => ⟨rfl, fun z => z.elim (fun z => (lv a z).elim (fun z => m (.inl z)) fun z => m (.inr (.inr z))) fun z => m (.inr (.inl z))⟩
  refine ⟨by rw [List.length_append, List.length_append, w.len]; rfl, fun n u h => ?_, fun n m a u u' h1 h2 h3 h4 => ?_, fun a h => ?_⟩
  · by_cases q : n < S.length
    · rw [List.getElem?_append_left q] at h
      obtain ⟨a, hb, h1, h2, h3⟩ := w.live n u h
      exact ⟨a, hb, pre n a h1, h2, h3.mono k pre⟩
    · have hn : n = S.length := by
        have := (List.getElem?_eq_some_iff.mp h).1
        simp at this
        omega
      subst hn
      rw [List.getElem?_append_right (Nat.le_refl _)] at h
      simp at h
      subst h
      refine ⟨p, ho, ?_, hp, r.mono k pre⟩
      rw [List.getElem?_append_right (by rw [w.len]; exact Nat.le_refl _)]
      simp [w.len]
  · rcases cas h1 h3 with ⟨a1, a2⟩ | ⟨a1, a2, _⟩
    · rcases cas h2 h4 with ⟨b1, b2⟩ | ⟨b1, b2, _⟩
      · exact w.inj n m a _ _ a1 b1 a2 b2
      · exact (np ⟨n, _, a1, by rw [← b2]; exact a2⟩).elim
    · rcases cas h2 h4 with ⟨b1, b2⟩ | ⟨b1, b2, _⟩
      · exact (np ⟨m, _, b1, by rw [← a2]; exact b2⟩).elim
      · rw [a1, b1]
  · obtain ⟨h1, h2⟩ := w.away a (.inl h)
    exact ⟨h1, fun z => (lv a z).elim h2 fun z => hF (by rw [← z]; exact h)⟩
theorem se_live {t : TE} {f : FN} (a : SimN K pv E t f) : SimE K pv E t (liveF f) := fun H φ S F O η σ Q w hO re h => by
  refine a H φ S F O η σ Q w hO re ?_
  unfold liveF at h
  cases q : f η S with
  | ok xs S1 =>
    rw [q] at h
    intro φ1 H1 e1 w1 p vs hp w2 hl r
    have h' : ∀ φ' H', Ev H φ (Lv φ S) H' φ' (Lv φ' (S1 ++ [some (.lst xs)])) → WF K H' φ' (S1 ++ [some (.lst xs)]) F → ∀ v, RV K H' φ' (uni (Lv φ' (S1 ++ [some (.lst xs)])) F) (.ref S1.length) v → Q v H' := h
    have np : ¬ Lv φ1 S1 p := (w2.away p (.inr rfl)).2
    refine h' (φ1 ++ [p]) H1 ⟨e1.stay, fun a h m => ?_, fun n a z => ?_⟩ (w2.adopt (f_none w hp) hl (.lst r)) _ (.ref ?_)
    · obtain ⟨q1, m1⟩ := e1.keep a h m
      refine ⟨q1, fun ⟨n, u, z1, z2⟩ => ?_⟩
      by_cases qq : n < S1.length
      · rw [List.getElem?_append_left qq] at z1
        rw [List.getElem?_append_left (by rw [w1.len]; exact qq)] at z2
        exact m1 ⟨n, u, z1, z2⟩
      · have hn : n = S1.length := by
          have := (List.getElem?_eq_some_iff.mp z1).1
          simp at this
          omega
        subst hn
        rw [List.getElem?_append_right (by rw [w1.len]; exact Nat.le_refl _)] at z2
        simp [w1.len] at z2
        exact h (by rw [← z2]; exact hp)
    · have z' := e1.pre n a z
      rw [List.getElem?_append_left (List.getElem?_eq_some_iff.mp z').1]
      exact z'
    · rw [List.getElem?_append_right (by rw [w1.len]; exact Nat.le_refl _)]
      simp [w1.len]
  | exc c fs S1 => rw [q] at h; exact h
  | stuck => rw [q] at h; exact h
def subsG (o i : FE) : FG := fun p η S => match pureR (o η S) with
  | .ok (.ref n) S1 => match pureR (i η S1) with
    | .ok (.int k) S2 => match S2[n]? with
      | some (some (.lst xs)) => match ixN xs.length k with
        | some j => .nx η (S2.set n (some (.lst (xs.set j p))))
        | none => .stuck
      | _ => .stuck
    | _ => .stuck
  | _ => .stuck
theorem RVs.setI {ps : List PV} {vs : List V} (r : RVs K H φ M ps vs) : vs.length = ps.length := r.len
theorem sg_sub {to ti : TE} {fo fi : FE} (a : SimE K pv (fun _ _ _ _ => False) to fo) (b : SimB K pv (fun _ _ _ _ => False) ti fi) : SimG K pv (gSub to ti rSetL) (subsG fo fi) := fun H φ S F η σ p v Q w r h => by
  unfold subsG at h
  refine a H φ S _ _ η σ _ w.wf (fun _ z => .inr z) w.re ?_
  cases q : fo η S with
  | exc c fs S1 => rw [q] at h; exact (show False from h).elim
  | stuck => rw [q] at h; exact (show False from h).elim
  | ok po S1 =>
    rw [q] at h
    intro φ1 H1 e1 w1 vo ro
    have ws1 := w.step e1 w1
    have r1 := e1.rv r
    refine b H1 φ1 S1 _ _ η σ _ ws1.wf (fun _ z => .inr z) ws1.re ?_
    cases po with
    | ref n =>
      dsimp only [pureR] at h
      cases q2 : fi η S1 with
      | exc c fs S2 => rw [q2] at h; exact (show False from h).elim
      | stuck => rw [q2] at h; exact (show False from h).elim
      | ok pi S2 =>
        rw [q2] at h
        intro φ2 H2 e2 w2 vi rvi
        have ws2 := ws1.step e2 w2
        have r2 := e2.rv r1
        have ro2 := e2.rv ro
        cases pi with
        | int k =>
          dsimp only [pureR] at h
          obtain rfl := rvi.int
          split at h
          · rename_i xs e0
            split at h
            · rename_i j ej
              cases ro2 with
              | ref ha =>
                obtain ⟨us, hl, rs⟩ := ws2.wf.lst e0 ha
                refine ⟨_, us, k, j, rfl, rfl, hl, by rw [rs.len]; exact ej, ?_⟩
                obtain ⟨w3, e3⟩ := ws2.wf.put (o' := .lst (xs.set j p)) e0 ha (.lst (rs.set r2 j))
                exact h φ2 _ σ (((EvS.of e1).trans (EvS.of e2)).trans (EvS.of e3)) (ws2.step e3 w3)
            · exact (show False from h).elim
          · exact (show False from h).elim
        | _ => exact (show False from h).elim
    | _ => exact (show False from h).elim
/-- x.append(e), x live -/
def appF (o : FE) (a : FA) : FE := fun η S => (o η S).bind fun p S => match p with
  | .ref n => (a η S).bind fun ps S => match ps with
    | [q] => match S[n]? with
      | some (some (.lst xs)) => if xs.length < 1000000 then .ok .non (S.set n (some (.lst (xs ++ [q])))) else .stuck
      | _ => .stuck
    | _ => .stuck
  | _ => .stuck
/-- x is a live list -/
def isLst : PV → AS → Bool := fun p S => match p with
  | .ref n => match S[n]? with
    | some (some (.lst _)) => true
    | _ => false
  | _ => false
def lmF (g : PV → List PV → AS → R PV) (o : FE) (a : FA) : FE := fun η S => (o η S).bind fun p S => if isLst p S = true then (a η S).bind fun ps S => pureR (g p ps S) else .stuck
/-- methods of lists, by values -/
def SimM (K : PySem.W.Frag) (r : V → List V → Hp → VK → Prop) (g : PV → List PV → AS → R PV) : Prop := ∀ (H : Hp) (φ : List Addr) (S : AS) (F O : Addr → Prop) (p : PV) (x : V) (ps : List PV) (xs : List V) (Q : VK), WF K H φ S F → (∀ a, O a → F a) → RV K H φ (uni (Lv φ S) F) p x → RVs K H φ (uni (Lv φ S) F) ps xs →
  GoE K (fun _ _ _ => False) F H φ S (g p ps S) (fun p φ' S' H' => ∀ v, RV K H' φ' (uni (Lv φ' S') F) p v → Q v H') → r x xs H Q
theorem se_lm {r : V → List V → Hp → VK → Prop} {g : PV → List PV → AS → R PV} {to : TE} {t : TA} {fo : FE} {fa : FA} (m : SimM K r g) (a : SimE K pv E to fo) (b : SimA K pv E t fa) : SimE K pv E (tBM K "list" r to t) (lmF g fo fa) := fun H φ S F O η σ Q w hO re h => by
  refine a H φ S F O η σ _ w hO re (h.bind.imp fun p φ1 S1 H1 e1 w1 h1 x rx => ?_)
  split at h1
  · rename_i hi
    refine ⟨?_, b H1 φ1 S1 F O η σ _ w1 hO (re.mono w hO e1) (h1.bind.imp fun ps φ2 S2 H2 e2 w2 h2 xs rs => m H2 φ2 S2 F O p x ps xs Q w2 hO (e2.rv rx) rs (pureR_go h2))⟩
    unfold isLst at hi
    split at hi
    · split at hi
      · rename_i e0
        cases rx with
        | ref ha =>
          obtain ⟨vs, hl, _⟩ := w1.lst e0 ha
          exact .inl ⟨rfl, vs, .inl (.inl hl)⟩
      · cases hi
    · cases hi
  · exact h1.elim
def appG : PV → List PV → AS → R PV := fun p ps S => match p, ps with
  | .ref n, [q] => match S[n]? with
    | some (some (.lst xs)) => if xs.length < 1000000 then .ok .non (S.set n (some (.lst (xs ++ [q])))) else .stuck
    | _ => .stuck
  | _, _ => .stuck
theorem sm_app : SimM K rAppend appG := fun H φ S F O p x ps xs Q w hO rx rs h => by
  unfold appG at h
  split at h
  · split at h
    · split at h
      · rename_i ys e0 hl
        cases rx with
        | ref ha =>
          obtain ⟨vs, hv, rv⟩ := w.lst e0 ha
          cases rs with
          | cons r rs =>
            cases rs
            obtain ⟨w3, e3⟩ := w.put (o' := .lst (ys ++ [_])) e0 ha (.lst (rv.append (.cons r .nil)))
            exact ⟨_, vs, _, rfl, rfl, hv, by rw [rv.len, sizeLine_eq]; omega, h φ _ e3 w3 _ .non⟩
      · exact h.elim
    · exact h.elim
  · exact h.elim
def popG : PV → List PV → AS → R PV := fun p ps S => match p, ps with
  | .ref n, [.int i] => match S[n]? with
    | some (some (.lst xs)) => if -(2 ^ 63) ≤ i ∧ i < 2 ^ 63 then match seqIndex? i xs.length with
        | some k => match xs[k]? with
          | some q => .ok q (S.set n (some (.lst (xs.eraseIdx k))))
          | none => .stuck
        | none => .stuck
      else .stuck
    | _ => .stuck
  | _, _ => .stuck
theorem sm_pop : SimM K rPopAt popG := fun H φ S F O p x ps xs Q w hO rx rs h => by
  unfold popG at h
  split at h
  · split at h
    · split at h
      · split at h
        · split at h
          · rename_i n i ys e0 hl _ k ek _ q eq
            cases rx with
            | ref ha =>
              obtain ⟨vs, hv, rv⟩ := w.lst e0 ha
              cases rs with
              | cons r rs =>
                cases rs
                cases r
                obtain ⟨u, eu, ru⟩ := rv.get eq
                obtain ⟨w3, e3⟩ := w.put (o' := .lst (ys.eraseIdx k)) e0 ha (.lst (rv.eraseIdx k))
                exact ⟨_, vs, _, k, u, rfl, rfl, hv, hl.1, hl.2, by rw [rv.len]; exact ek, eu, h φ _ e3 w3 _ (e3.rv ru)⟩
          · exact h.elim
        · exact h.elim
      · exact h.elim
    · exact h.elim
  · exact h.elim
/-! ### a slot's own list -/
def ownApp (i : Nat) (f : FE) : FS := fun η S => match η[i]? with
  | some (.own xs) => lift (f η S) η fun p S => if xs.length < 1000000 then .nx (η.set i (.own (xs ++ [p]))) S else .stuck
  | _ => .stuck
/-- an own list written -/
theorem WS.own (w : WS K pv H φ S F η σ) {i : Nat} {xs ys : List PV} {us ws : List V} {a : Addr} (e : η[i]? = some (.own xs)) (f : σ[i]? = some (some (.ref a))) (hl : H a = some (.lst us)) (r : RVs K H φ (uni (Lv φ S) (uni F (Own η σ))) ys ws) :
    WS K pv (upd H a (.lst ws)) φ S F (η.set i (.own ys)) σ ∧ EvS H φ S η σ (upd H a (.lst ws)) φ S (η.set i (.own ys)) σ := by
  have oa : Own η σ a := ⟨i, xs, e, f⟩
  have hi : i < η.length := (List.getElem?_eq_some_iff.mp e).1
  have ow : ∀ b, Own (η.set i (.own ys)) σ b ↔ Own η σ b := fun b => by
    constructor
    · rintro ⟨j, zs, h1, h2⟩
      by_cases q : i = j
      · subst q
        exact ⟨i, xs, e, h2⟩
      · rw [List.getElem?_set_ne q] at h1
        exact ⟨j, zs, h1, h2⟩
    · rintro ⟨j, zs, h1, h2⟩
      by_cases q : i = j
      · subst q
        exact ⟨i, ys, by rw [List.getElem?_set, if_pos rfl, if_pos hi], h2⟩
      · exact ⟨j, zs, by rw [List.getElem?_set_ne q]; exact h1, h2⟩
  have la : ¬ Lv φ S a := (w.wf.away a (.inr oa)).2
  have st : ∀ b, H b ≠ none → upd H a (.lst ws) b ≠ none := fun b h => by
    by_cases q : b = a
    · subst q; rw [upd_same]; nofun
    · rw [upd_ne q]; exact h
  have fu : ∀ b, uni F (Own (η.set i (.own ys)) σ) b ↔ uni F (Own η σ) b := fun b => or_congr Iff.rfl (ow b)
  have k : ∀ b, H b ≠ none → ¬ uni (Lv φ S) (uni F (Own η σ)) b → upd H a (.lst ws) b = H b ∧ ¬ uni (Lv φ S) (uni F (Own (η.set i (.own ys)) σ)) b := fun b h m => ⟨upd_ne fun z => m (.inr (.inr (by rw [z]; exact oa))), fun z => m (z.imp id (fu b).mp)⟩
  refine ⟨⟨⟨w.wf.len, fun n u h => ?_, w.wf.inj, fun b h => ?_⟩, ⟨by rw [List.length_set]; exact w.re.len, fun j p h => ?_, fun j zs h => ?_, pin_set1 nofun (fun _ r => r.mono k fun _ _ h => h) w.re.pin⟩, fun j l zs ts b h1 h2 h3 h4 => ?_, fun b h z => w.dis b h ((ow b).mp z)⟩, ⟨st, fun b h m => ⟨upd_ne fun z => m (.inr (by rw [z]; exact oa)), fun z => m (z.imp id (ow b).mp)⟩, fun _ _ h => h⟩⟩
  · obtain ⟨b, hb, h1, h2, h3⟩ := w.wf.live n u h
    exact ⟨b, hb, h1, (upd_ne fun z => la ⟨n, u, h, by rw [← z]; exact h1⟩).trans h2, h3.mono k fun _ _ h => h⟩
  · obtain ⟨h1, h2⟩ := w.wf.away b ((fu b).mp h)
    exact ⟨st b h1, h2⟩
  · by_cases q : i = j
    · subst q
      rw [List.getElem?_set, if_pos rfl, if_pos hi] at h
      cases h
    · rw [List.getElem?_set_ne q] at h
      obtain ⟨v, h1, h2⟩ := w.re.val j p h
      exact ⟨v, h1, h2.mono k fun _ _ h => h⟩
  · by_cases q : i = j
    · subst q
      rw [List.getElem?_set, if_pos rfl, if_pos hi] at h
      cases h
      exact ⟨a, ws, f, upd_same, r.mono k fun _ _ h => h, (ow a).mpr oa⟩
    · rw [List.getElem?_set_ne q] at h
      obtain ⟨b, vs, h1, h2, h3, h4⟩ := w.re.own j zs h
      have ne : b ≠ a := fun z => q (w.inj i j xs zs a e h f (by rw [← z]; exact h1))
      exact ⟨b, vs, h1, (upd_ne ne).trans h2, h3.mono k fun _ _ h => h, (ow b).mpr h4⟩
  · have g : ∀ {j : Nat} {zs : List PV}, (η.set i (.own ys))[j]? = some (.own zs) → ∃ zs, η[j]? = some (.own zs) := fun {j zs} h => by
      by_cases q : i = j
      · subst q; exact ⟨xs, e⟩
      · rw [List.getElem?_set_ne q] at h; exact ⟨zs, h⟩
    obtain ⟨_, q1⟩ := g h1
    obtain ⟨_, q2⟩ := g h2
    exact w.inj j l _ _ b q1 q2 h3 h4
theorem ss_ownApp {i : Nat} {te : TE} {f : FE} (a : SimE K pv E te f) : SimS K pv E (tDrop (tBM K "list" rAppend (tVar i) (tCons te tNil))) (ownApp i f) := fun H φ S F η σ D w h => by
  unfold ownApp at h
  split at h
  · rename_i xs e
    obtain ⟨ad, us, e1, e2, e3, e4⟩ := w.re.own i xs e
    refine ⟨_, e1, .inl ⟨rfl, us, .inl (.inl e2)⟩, ?_⟩
    refine a H φ S _ _ η σ _ w.wf (fun _ z => .inr z) w.re ((GoS.lift w h).imp fun p φ1 S1 H1 ev w1 h1 v rv => ?_)
    obtain ⟨h1, ws⟩ := h1
    split at h1
    · rename_i hl
      obtain ⟨ad', us', f1, f2, f3, _⟩ := ws.re.own i xs e
      rw [e1] at f1
      cases f1
      refine ⟨ad, us', v, rfl, rfl, f2, by rw [f3.len, sizeLine_eq]; omega, ?_⟩
      obtain ⟨ws2, ev2⟩ := ws.own (ys := xs ++ [p]) (ws := us' ++ [v]) e e1 f2 (f3.append (.cons rv .nil))
      exact h1 φ1 _ σ ev2 ws2
    · exact h1.elim
  · exact (show False from h).elim
/-- from now on the slot's list is not changed -/
def frzS (i : Nat) (f : FS) : FS := fun η S => match η[i]? with
  | some (.own xs) => f (η.set i (.val (.lst xs))) S
  | _ => f η S
theorem ss_frz {i : Nat} {t : TS} {f : FS} (a : SimS K pv E t f) : SimS K pv E t (frzS i f) := fun H φ S F η σ D w h => by
  unfold frzS at h
  split at h
  · rename_i xs e
    obtain ⟨ad, us, e1, e2, e3, e4⟩ := w.re.own i xs e
    have hi : i < σ.length := (List.getElem?_eq_some_iff.mp e1).1
    have hs : σ.set i (some (V.ref ad)) = σ := by
      apply List.ext_getElem?
      intro j
      rw [List.getElem?_set]
      split
      · rename_i q
        subst q
        rw [e1]
      · rfl
    have ow : ∀ b, Own (η.set i (.val (.lst xs))) σ b → Own η σ b ∧ b ≠ ad := fun b ⟨j, zs, h1, h2⟩ => by
      by_cases q : i = j
      · subst q
        rw [List.getElem?_set, if_pos rfl] at h1
        split at h1 <;> cases h1
      · rw [List.getElem?_set_ne q] at h1
        exact ⟨⟨j, zs, h1, h2⟩, fun z => q (w.inj i j xs zs ad e h1 e1 (by rw [← z]; exact h2))⟩
    have hm : ∀ b, uni (Lv φ S) (uni F (Own (η.set i (.val (.lst xs))) σ)) b → uni (Lv φ S) (uni F (Own η σ)) b := fun b z => z.imp id fun z => z.imp id fun z => (ow b z).1
    have na : ¬ uni (Lv φ S) (uni F (Own (η.set i (.val (.lst xs))) σ)) ad := fun z => z.elim (w.wf.away ad (.inr e4)).2 fun z => z.elim (fun z => w.dis ad z e4) fun z => (ow ad z).2 rfl
    refine a H φ S F _ σ D ⟨w.wf.less fun b z => z.imp id fun z => (ow b z).1, ⟨by rw [List.length_set]; exact w.re.len, fun j p h => ?_, fun j zs h => ?_, pin_set1 nofun (fun _ r => r.less hm) w.re.pin⟩, fun j l zs ts b h1 h2 h3 h4 => ?_, fun b z1 z2 => w.dis b z1 (ow b z2).1⟩ (GoS.step h ?_)
    · by_cases q : i = j
      · subst q
        rw [List.getElem?_set, if_pos rfl] at h
        split at h
        · cases h
          exact ⟨_, e1, .lst ⟨e2, na⟩ (e3.less hm)⟩
        · cases h
      · rw [List.getElem?_set_ne q] at h
        obtain ⟨v, h1, h2⟩ := w.re.val j p h
        exact ⟨v, h1, h2.less hm⟩
    · by_cases q : i = j
      · subst q
        rw [List.getElem?_set, if_pos rfl] at h
        split at h <;> cases h
      · have h0 := h
        rw [List.getElem?_set_ne q] at h
        obtain ⟨b, vs, h1, h2, h3, h4⟩ := w.re.own j zs h
        exact ⟨b, vs, h1, h2, h3.less hm, ⟨j, zs, h0, h1⟩⟩
    · have g : ∀ {j : Nat} {zs : List PV}, (η.set i (.val (.lst xs)))[j]? = some (.own zs) → η[j]? = some (.own zs) := fun {j zs} h => by
        by_cases q : i = j
        · subst q
          rw [List.getElem?_set, if_pos rfl] at h
          split at h <;> cases h
        · rw [List.getElem?_set_ne q] at h; exact h
      exact w.inj j l _ _ b (g h1) (g h2) h3 h4
    · exact ⟨fun _ h => h, fun b h m => ⟨rfl, fun z => m (z.imp id fun z => (ow b z).1)⟩, fun _ _ h => h⟩
  · exact a H φ S F η σ D w h
end
end Fu

end
section
set_option Elab.async false
set_option linter.all false
set_option maxRecDepth 100000
set_option maxHeartbeats 4000000
namespace Fu
open PySem PySem.Spec PyProof.Rows L2
open He (ga)
theorem passN0 {X : Cx} : Passes (L2N.CX X.prog X.w) X (fun _ _ _ => False) := fun _ _ _ _ _ _ _ h => by
  obtain ⟨_, _, _, _, _, _, _, _, _, _, _, z⟩ := h
  obtain ⟨_, z⟩ := z
  first | exact z | exact z.elim | exact z.2
section
variable {K : PySem.W.Frag} {pv : V × Option Addr} {E : XW} {F O : Addr → Prop} {H H' H1 H3 : Hp} {φ φ' φ1 : List Addr} {S S' S1 : AS} {M : Addr → Prop} {η : Sls} {σ : L2.St}
/-! ### targets of comprehensions -/
theorem wipe_set1 (σ : L2.St) (v : Nat) (x : Option V) : ∀ vs : List Nat, (L2.wipe (σ.set v x) vs).set v none = (L2.wipe σ vs).set v none
  | [] => by
    show (σ.set v x).set v none = σ.set v none
    rw [List.set_set]
  | u :: us => by
    show ((L2.wipe (σ.set v x) us).set u none).set v none = ((L2.wipe σ us).set u none).set v none
    by_cases e : u = v
    · subst e
      rw [List.set_set, List.set_set, wipe_set1 σ u x us]
    · rw [List.set_comm _ _ e, wipe_set1 σ v x us, List.set_comm _ _ e]
theorem wipe_set (σ : L2.St) (i : Nat) (x : Option V) : ∀ vs : List Nat, i ∈ vs → L2.wipe (σ.set i x) vs = L2.wipe σ vs
  | u :: us, h => by
    show (L2.wipe (σ.set i x) us).set u none = (L2.wipe σ us).set u none
    by_cases e : u = i
    · subst e
      exact wipe_set1 σ u x us
    · rcases List.mem_cons.mp h with h | h
      · exact absurd h.symm e
      · rw [wipe_set σ i x us h]
def nameX (i : Nat) : FGx := fun p η => some (η.set i (.val p))
theorem sx_name {i : Nat} {vs : List Nat} (hi : i ∈ vs := by decide) : SimGx K pv vs (gName i) (nameX i) := fun H φ M O η η' σ p v Q re rv e h => by
  cases e
  refine h _ ⟨by rw [List.length_set, List.length_set]; exact re.len, fun j q e => ?_, fun j xs e => ?_, pin_set nofun (fun _ r => r) re.pin⟩ (wipe_set σ i _ vs hi)
  · by_cases z : i = j
    · subst z
      rw [List.getElem?_set, if_pos rfl] at e
      split at e
      · rename_i hl
        cases e
        exact ⟨v, by rw [List.getElem?_set, if_pos rfl, if_pos (by rw [re.len]; exact hl)], rv⟩
      · cases e
    · rw [List.getElem?_set_ne z] at e ⊢
      exact re.val j q e
  · by_cases z : i = j
    · subst z
      rw [List.getElem?_set, if_pos rfl] at e
      split at e <;> cases e
    · rw [List.getElem?_set_ne z] at e ⊢
      exact re.own j xs e
def SimGxs (K : PySem.W.Frag) (pv : V × Option Addr) (vs : List Nat) (g : TGs) (f : List PV → Sls → Option Sls) : Prop := ∀ (H : Hp) (φ : List Addr) (M O : Addr → Prop) (η η' : Sls) (σ : L2.St) (p : List PV) (v : List V) (Q : L2.St → Hp → Prop), RE K pv H φ M O η σ → RVs K H φ M p v → f p η = some η' →
  (∀ σ', RE K pv H φ M O η' σ' → wipe σ' vs = wipe σ vs → Q σ' H) → g v σ H Q
def nilX : List PV → Sls → Option Sls := fun ps η => match ps with
  | [] => some η
  | _ => none
def consX (f : FGx) (g : List PV → Sls → Option Sls) : List PV → Sls → Option Sls := fun ps η => match ps with
  | p :: ps => (f p η).bind (g ps)
  | _ => none
def tupX (n : Nat) (g : List PV → Sls → Option Sls) : FGx := fun p η => match p with
  | .tup ps => if ps.length = n then g ps η else none
  | .ktu ps => if ps.length = n then g ps η else none
  | _ => none
theorem sxs_nil {vs : List Nat} : SimGxs K pv vs gNil nilX := fun H φ M O η η' σ p v Q re rv e h => by
  cases rv with
  | nil => cases e; exact ⟨rfl, h σ re rfl⟩
  | cons _ _ => cases e
theorem sxs_cons {vs : List Nat} {t : TG} {u : TGs} {f : FGx} {g : List PV → Sls → Option Sls} (a : SimGx K pv vs t f) (b : SimGxs K pv vs u g) : SimGxs K pv vs (gCons t u) (consX f g) := fun H φ M O η η' σ p v Q re rv e h => by
  cases rv with
  | nil => cases e
  | @cons p ps v vs' r rs =>
    have e' : (f p η).bind (g ps) = some η' := e
    cases q : f p η with
    | none => rw [q] at e'; cases e'
    | some η1 =>
      rw [q] at e'
      exact ⟨v, vs', rfl, a H φ M O η η1 σ p v _ re r q fun σ1 re1 hw => b H φ M O η1 η' σ1 ps vs' Q re1 rs e' fun σ2 re2 hw2 => h σ2 re2 (hw2.trans hw)⟩
theorem sx_tup {vs : List Nat} {t : TGs} {n : Nat} {g : List PV → Sls → Option Sls} (a : SimGxs K pv vs t g) : SimGx K pv vs (gTup K n t) (tupX n g) := fun H φ M O η η' σ p v Q re rv e h => by
  unfold tupX at e
  split at e
  · split at e
    · rename_i hl
      cases rv with
      | tup hv rs => exact ⟨_, _, rfl, hv.sq, by rw [rs.len]; exact hl, a H φ M O η η' σ _ _ Q re rs e h⟩
    · cases e
  · split at e
    · rename_i hl
      cases rv with
      | ktu hv rs => exact ⟨_, _, rfl, hv.sq, by rw [rs.len]; exact hl, a H φ M O η η' σ _ _ Q re rs e h⟩
    · cases e
  · cases e
def yesT : FT := fun _ S => .ok true S
theorem st_yes : SimT K pv E tYes yesT := fun H φ S F O η σ Q w hO re h => h.ok w
/-! ### list + list, new; the reverse; - -/
def addN (f g : FE) : FN := fun η S => (f η S).bind fun p S => (g η S).bind fun q S => match p, q with
  | .lst xs, .lst ys => if xs.length + ys.length ≤ 1000000 then .ok (xs ++ ys) S else .stuck
  | _, _ => .stuck
theorem sn_add {ta tb : TE} {f g : FE} (a : SimB K pv E ta f) (b : SimB K pv E tb g) : SimN K pv E (tOp (rAddU K) ta tb) (addN f g) := fun H φ S F O η σ Q w hO re h => by
  refine a H φ S F O η σ _ w hO re (h.bind.imp fun p φ1 S1 H1 e1 w1 h1 x rx => ?_)
  refine b H1 φ1 S1 F O η σ _ w1 hO (re.mono w hO e1) (h1.bind.imp fun q φ2 S2 H2 e2 w2 h2 y ry => ?_)
  split at h2
  · split at h2
    · rename_i xs ys hl
      obtain ⟨a, vs, rfl, h3, r1⟩ := (rx.mono w1 hO e2).lst
      obtain ⟨b, ws, rfl, h4, r2⟩ := ry.lst
      exact .inr (.inr (.inr ⟨a, b, vs, ws, rfl, rfl, h3, h4, million (by rw [r1.len, r2.len]; exact hl), fun p hp => GoE.lay (E' := E σ) w2 (r1.append r2) hp (fun a z => e2.stay a (e1.stay a z)) h2⟩))
    · exact h2.elim
  · exact h2.elim
def negG : PV → AS → R PV := fun p S => match p with
  | .int i => .ok (.int (-i)) S
  | _ => .stuck
theorem su_neg : SimU K (rU fun i => .int (-i)) negG := fun H φ S F O p x Q w hO rp h => by
  unfold negG at h
  split at h
  · obtain rfl := rp.int
    exact ⟨_, rfl, h.ok w _ .int⟩
  · exact h.elim
def revG : PV → AS → R PV := fun p S => match litems p S with
  | some xs => .ok (.lst xs.reverse) S
  | none => .stuck
theorem pe_revLK {X : Cx} {e : Expr} {te : TE} {k : Nat} {p1 p2 p3 pos : Pos} (he : PE X e te) (h : X.K = K := by rfl) : PE X (.Subscript e (.Slice none none (some (.UnaryOp .USub (.Constant (.int 1) k p1) p2)) p3) pos) (tRevL K te) := by
  subst h
  exact pe_revL he
theorem se_rev {ta : TE} {f : FE} (a : SimB K pv E ta f) : SimE K pv E (tRevL K ta) (unF revG f) := fun H φ S F O η σ Q w hO re h => by
  refine a H φ S F O η σ _ w hO re (h.bind.imp fun p φ1 S1 H1 e1 w1 h1 x rx => ?_)
  have h2 := pureR_go h1
  unfold revG at h2
  split at h2
  · rename_i xs e
    obtain ⟨b, vs, rfl, hl, r⟩ := litems_ok w1 rx e
    exact ⟨b, vs, rfl, hl, fun p hp => h2.new w1 hp _ (.newLst w1 hp r.reverse)⟩
  · exact h2.elim
/-! ### all, any, isinstance -/
def blsOf : List PV → Option (List Bool)
  | [] => some []
  | .bl b :: r => (blsOf r).map (b :: ·)
  | _ => none
theorem blsOf_ok : ∀ {ps : List PV} {vs : List V} {bs : List Bool}, RVs K H φ M ps vs → blsOf ps = some bs → vs = bs.map V.bl
  | [], _, _, .nil, e => by cases e; rfl
  | p :: ps, _, bs, .cons r rs, e => by
    cases r with
    | bl =>
      unfold blsOf at e
      cases q : blsOf ps with
      | none => rw [q] at e; cases e
      | some cs =>
        rw [q] at e
        cases e
        rw [blsOf_ok rs q] <;> rfl
    | _ => cases e
def allG : List PV → AS → R PV := fun ps S => match ps with
  | [p] => match litems p S with
    | some xs => match blsOf xs with
      | some bs => .ok (.bl (bs.all id)) S
      | none => .stuck
    | none => .stuck
  | _ => .stuck
def anyG : List PV → AS → R PV := fun ps S => match ps with
  | [p] => match litems p S with
    | some xs => match blsOf xs with
      | some bs => .ok (.bl (bs.any id)) S
      | none => .stuck
    | none => .stuck
  | _ => .stuck
theorem cr_allU {X : Cx} (hc : X.calm = true) (h : X.K = K := by rfl) : CallR X (.builtin "all") (rAll K) := by
  subst h
  exact cr_all hc
theorem cr_anyU {X : Cx} (hc : X.calm = true) (h : X.K = K := by rfl) : CallR X (.builtin "any") (rAny K) := by
  subst h
  exact cr_any hc
theorem sc_all : SimC K (rAll K) allG := fun H φ S F O ps xs Q w hO r h => by
  unfold allG at h
  split at h
  · split at h
    · rename_i e
      split at h
      · rename_i bs e2
        obtain ⟨x, rfl, r'⟩ := r.one
        obtain ⟨a, vs, rfl, hl, rs⟩ := litems_ok w r' e
        exact ⟨a, bs, rfl, by rw [← blsOf_ok rs e2]; exact hl, h.ok w _ .bl⟩
      · exact h.elim
    · exact h.elim
  · exact h.elim
theorem sc_any : SimC K (rAny K) anyG := fun H φ S F O ps xs Q w hO r h => by
  unfold anyG at h
  split at h
  · split at h
    · rename_i e
      split at h
      · rename_i bs e2
        obtain ⟨x, rfl, r'⟩ := r.one
        obtain ⟨a, vs, rfl, hl, rs⟩ := litems_ok w r' e
        exact ⟨a, bs, rfl, by rw [← blsOf_ok rs e2]; exact hl, h.ok w _ .bl⟩
      · exact h.elim
    · exact h.elim
  · exact h.elim
def tyN : PV → AS → Option String := fun p S => match p with
  | .non => some "NoneType"
  | .bl _ => some "bool"
  | .int _ => some "int"
  | .str _ => some "str"
  | .tup _ => some "tuple"
  | .ktu _ => some "tuple"
  | .lst _ => some "list"
  | .kls _ => some "list"
  | .ref n => match S[n]? with
    | some (some (.lst _)) => some "list"
    | some (some (.dic _)) => some "dict"
    | some (some (.dct _)) => some "dict"
    | _ => none
  | _ => none
/-- is one of the types below an instance's type? -/
def isT (a b : String) : Option Bool :=
  if a = b then some true
  else if a = "bool" ∧ b = "int" then some true
  else if (a = "NoneType" ∨ a = "bool" ∨ a = "int" ∨ a = "str" ∨ a = "tuple" ∨ a = "list" ∨ a = "dict") ∧ (b = "bool" ∨ b = "int" ∨ b = "str" ∨ b = "tuple" ∨ b = "list" ∨ b = "dict") then some false
  else none
theorem isT_ok {a b : String} {c : Bool} (h : isT a b = some c) : kitB a b = some c := by
  unfold isT at h
  split at h
  · rename_i e
    cases h
    subst e
    unfold kitB
    rw [if_pos (by rw [show Value.type a = Value.type a from rfl]; exact beq_self_eq_true _)]
  · split at h
    · rename_i e
      cases h
      obtain ⟨rfl, rfl⟩ := e
      decide +kernel
    · split at h
      · rename_i n1 n2 e
        cases h
        obtain ⟨h1, h2⟩ := e
        rcases h1 with rfl | rfl | rfl | rfl | rfl | rfl | rfl <;> rcases h2 with rfl | rfl | rfl | rfl | rfl | rfl <;> first | exact absurd rfl n1 | exact absurd ⟨rfl, rfl⟩ n2 | decide +kernel
      · cases h
def isiG : List PV → AS → R PV := fun ps S => match ps with
  | [p, .ty n] => match tyN p S with
    | some a => match isT a n with
      | some b => .ok (.bl b) S
      | none => .stuck
    | none => .stuck
  | _ => .stuck
theorem tyN_ok {p : PV} {x : V} {n : String} (w : WF K H φ S F) (r : RB K H φ (uni (Lv φ S) F) O p x) (e : tyN p S = some n) : TyX K H x (.type n) := by
  unfold tyN at e
  split at e
  · obtain rfl := r.non; cases e; exact .base .non
  · obtain rfl := r.bl; cases e; exact .base (.bl _)
  · obtain rfl := r.int; cases e; exact .base (.int _)
  · obtain rfl := r.str; cases e; exact .base (.str _)
  · obtain ⟨a, vs, rfl, h1, _⟩ := r.tup; cases e; exact Hk.ty_SqT h1
  · obtain ⟨a, vs, rfl, h1, _⟩ := r.ktu; cases e; exact Hk.ty_SqT h1
  · obtain ⟨a, vs, rfl, h1, _⟩ := r.lst; cases e; exact .base (.lst h1)
  · obtain ⟨a, vs, rfl, h1, _⟩ := r.kls; cases e; exact Hk.ty_SqL h1
  · obtain ⟨a, rfl, ha⟩ := r.ref
    split at e
    · rename_i e0
      cases e
      obtain ⟨vs, h1, _⟩ := w.lst e0 ha
      exact .base (.lst h1)
    · rename_i e0
      cases e
      obtain ⟨b, ho, h1, h2, h3⟩ := w.live _ _ e0
      rw [ha] at h1
      cases h1
      cases h3 with
      | dK _ => exact .base (.dK h2)
    · rename_i e0
      cases e
      obtain ⟨b, ho, h1, h2, h3⟩ := w.live _ _ e0
      rw [ha] at h1
      cases h1
      cases h3 with
      | dT _ => exact .base (.dT h2)
    · cases e
  · cases e
def rIsiU (K : PySem.W.Frag) : List V → Hp → VK → Prop := rIsi K
theorem call_isiU {X : Cx} (h : X.K = K := by rfl) : CallR X (.builtin "isinstance") (rIsi K) := by
  subst h
  exact call_isi
theorem sc_isi : SimC K (rIsi K) isiG := fun H φ S F O ps xs Q w hO r h => by
  unfold isiG at h
  split at h
  · split at h
    · rename_i e
      split at h
      · rename_i b e2
        obtain ⟨x, y, rfl, r1, r2⟩ := r.two
        obtain rfl := r2.ty
        exact ⟨x, _, _, _, b, rfl, .ty _, tyN_ok w r1 e, kit_ty (isT_ok e2), h.ok w _ .bl⟩
      · exact h.elim
    · exact h.elim
  · exact h.elim
/-! ### what the top holds -/
mutual
def ktB (K : PySem.W.Frag) : PV → Value → Bool
  | .non, u => match u with | .none => true | _ => false
  | .bl b, u => match u with | .bool c => b == c | _ => false
  | .int i, u => match u with | .int j _ => decide (i = j) | _ => false
  | .str x, u => match u with | .str y _ => decide (x = y) | _ => false
  | .ktu xs, u => match u with
    | .ref a => match K.lookup a with
      | some ⟨.type c, _, .seq its _, _⟩ => decide (c = "tuple") && (decide (its.size ≤ sizeLine) && ktBs K xs its.toList)
      | _ => false
    | _ => false
  | _, _ => false
def ktBs (K : PySem.W.Frag) : List PV → List Value → Bool
  | [], [] => true
  | p :: ps, u :: us => ktB K p u && ktBs K ps us
  | _, _ => false
end
mutual
theorem ktB_ok : ∀ {p : PV} {u : Value}, ktB K p u = true → ∃ v, RelV v u ∧ ∀ H φ M, RV K H φ M p v
  | .non, u, h => by
    unfold ktB at h
    split at h
    · exact ⟨.non, rfl, fun _ _ _ => .non⟩
    · cases h
  | .bl b, u, h => by
    unfold ktB at h
    split at h
    · rename_i c
      cases beq_iff_eq.mp h
      exact ⟨.bl b, rfl, fun _ _ _ => .bl⟩
    · cases h
  | .int i, u, h => by
    unfold ktB at h
    split at h
    · cases of_decide_eq_true h
      exact ⟨.int i, ⟨_, rfl⟩, fun _ _ _ => .int⟩
    · cases h
  | .str x, u, h => by
    unfold ktB at h
    split at h
    · cases of_decide_eq_true h
      exact ⟨.str x, ⟨_, rfl⟩, fun _ _ _ => .str⟩
    · cases h
  | .ktu xs, u, h => by
    unfold ktB at h
    split at h
    · rename_i a
      split at h
      · rename_i c dd its n sl e
        rw [Bool.and_eq_true, Bool.and_eq_true] at h
        obtain ⟨h1, h2, h3⟩ := h
        obtain ⟨vs, r1, r2⟩ := ktBs_ok h3
        exact ⟨.ref a, rfl, fun H φ M => .ktu (.inr ⟨_, its, n, e, congrArg Value.type (of_decide_eq_true h1), rfl, of_decide_eq_true h2, r1⟩) (r2 H φ M)⟩
      · cases h
    · cases h
  | .tup _, _, h => by unfold ktB at h; cases h
  | .lst _, _, h => by unfold ktB at h; cases h
  | .kls _, _, h => by unfold ktB at h; cases h
  | .ty _, _, h => by unfold ktB at h; cases h
  | .con _, _, h => by unfold ktB at h; cases h
  | .ref _, _, h => by unfold ktB at h; cases h
theorem ktBs_ok : ∀ {ps : List PV} {us : List Value}, ktBs K ps us = true → ∃ vs, Vals vs us ∧ ∀ H φ M, RVs K H φ M ps vs
  | [], [], _ => ⟨[], .nil, fun _ _ _ => .nil⟩
  | p :: ps, u :: us, h => by
    unfold ktBs at h
    rw [Bool.and_eq_true] at h
    obtain ⟨v, r, k⟩ := ktB_ok h.1
    obtain ⟨vs, rs, ks⟩ := ktBs_ok h.2
    exact ⟨v :: vs, .cons r rs, fun H φ M => .cons (k H φ M) (ks H φ M)⟩
  | [], _ :: _, h => by unfold ktBs at h; cases h
  | _ :: _, [], h => by unfold ktBs at h; cases h
end
theorem se_ktup {a : Addr} {p : PV} (h : ktB K p (.ref a) = true) : SimE K pv E (tC (.ref a)) (cF p) := fun H φ S F O η σ Q w hO re g => by
  obtain ⟨v, r, k⟩ := ktB_ok h
  have e := r.inj (y := .ref a) rfl
  subst e
  exact g.ok w _ (k _ _ _)
/-- a table of the top: keys that are texts -/
def keyTB (K : PySem.W.Frag) (a : Addr) (k : Str) (p : PV) : Bool := match PySem.W.nsIn K a k with
  | some (some u) => ktB K p u
  | _ => false
def tabG (tab : List (Str × PV)) : PV → AS → R PV := fun p S => match p with
  | .str z => ofO (tab.lookup z) S
  | _ => .stuck
theorem se_tab {wd : World} {a : Addr} {tab : List (Str × PV)} {tk : TE} {f : FE} (hd : ∃ es n, KDict K wd a es n) (h : ∀ z p, tab.lookup z = some p → keyTB K a z p = true) (b : SimB K pv E tk f) : SimE K pv E (tOp (rIxD K wd) (tC (.ref a)) tk) (unF (tabG tab) f) := fun H φ S F O η σ Q w hO re g => by
  refine b H φ S F O η σ _ w hO re (g.bind.imp fun q φ1 S1 H1 e1 w1 h1 y ry => ?_)
  have h2 := pureR_go h1
  unfold tabG at h2
  split at h2
  · rename_i z
    obtain rfl := ry.str
    obtain ⟨p, e, k⟩ := ofO_go w1 h2
    have q := h z p e
    unfold keyTB at q
    split at q
    · rename_i u eu
      obtain ⟨v, r, kk⟩ := ktB_ok q
      obtain ⟨es, n, hk⟩ := hd
      exact ⟨a, z, v, rfl, rfl, ⟨es, n, u, hk.1, hk.2, eu, r⟩, k _ (kk _ _ _)⟩
    · cases q
  · exact h2.elim
end
end Fu

end
section
set_option Elab.async false
set_option linter.all false
set_option maxRecDepth 100000
set_option maxHeartbeats 4000000
namespace Fu
open PySem PySem.Spec PyProof.Rows L2
open He (ga)
/-! ### a recursive def, at depth nought -/
theorem spF_zero {K : PySem.W.Frag} {n : Nat} {vs : List V} {H : Hp} {Q : VK} {X : XK} (h : spF K n (fun _ _ => .stuck) vs H Q X) : False := by
  obtain ⟨_, _, _, _, _, _, _, g⟩ := h
  exact g
theorem go_zero {P : Program} {w : World} {K : PySem.W.Frag} {mg : Str → Option Value} {base : Heap} {CX : CXT} {k : Nat} {nm qual : Str} {st : Stmt} {ps : List Str} {sp : Sp} (g : mg nm = some (.ref (ga K nm)))
    (F : ∃ fd, FunD K nm qual (defArgs st) (defBody st) (defScope st) [] [] (ga K nm) fd)
    (hb : ∀ (kV doc pm : Value) (an : Option Addr) (cdv ct : Value) (us : List Value), us.length = ps.length → bindArgs (PySem.W.fnOf nm qual (defArgs st) (defBody st) (defScope st) .none kV doc pm an cdv ct) ⟨us, []⟩ = pure (ps.zip us))
    (len : ∀ vs H Q E, sp vs H Q E → vs.length = ps.length) (no : ∀ vs H Q E, sp vs H Q E → False) : Hk.GOk P w K mg base CX k nm ps sp := by
  obtain ⟨fd, F⟩ := F
  exact ⟨g, fd, F.kp, F.bindsN hb, ⟨len, fun A outer s H args us vs Q E _ _ _ _ h => (no vs H Q E h).elim⟩⟩
section
variable {K : PySem.W.Frag} {pv : V × Option Addr} {E : XW} {F O : Addr → Prop} {H H' H1 H3 : Hp} {φ φ' φ1 : List Addr} {S S' S1 : AS} {M : Addr → Prop} {η : Sls} {σ : L2.St}
/-! ### fields -/
theorem RFs.get : ∀ {ps : List (Str × PV)} {vs : List (Str × V)} {f : Str} {p : PV}, RFs K H φ M ps vs → ps.lookup f = some p → ∃ v, vs.lookup f = some v ∧ RV K H φ M p v
  | _, _, _, _, .nil, e => by cases e
  | _, _, f, p, @RFs.cons _ _ _ _ x q v ps vs r rs, e => by
    by_cases h : f = x
    · subst h
      simp [List.lookup] at e ⊢
      subst e
      exact r
    · have hb : (f == x) = false := beq_eq_false_iff_ne.mpr h
      simp only [List.lookup, hb] at e ⊢
      exact rs.get e
theorem RFs.none : ∀ {ps : List (Str × PV)} {vs : List (Str × V)} {f : Str}, RFs K H φ M ps vs → ps.lookup f = none → vs.lookup f = none
  | _, _, _, .nil, _ => rfl
  | _, _, f, @RFs.cons _ _ _ _ x q v ps vs r rs, e => by
    by_cases h : f = x
    · subst h
      simp [List.lookup] at e
    · have hb : (f == x) = false := beq_eq_false_iff_ne.mpr h
      simp only [List.lookup, hb] at e ⊢
      exact rs.none e
theorem RFs.len : ∀ {ps : List (Str × PV)} {vs : List (Str × V)}, RFs K H φ M ps vs → vs.length = ps.length
  | _, _, .nil => rfl
  | _, _, .cons _ r => congrArg Nat.succ r.len
def putP (f : Str) (v : PV) : List (Str × PV) → List (Str × PV)
  | [] => [(f, v)]
  | (g, x) :: r => if g = f then (g, v) :: r else (g, x) :: putP f v r
theorem RFs.put {f : Str} {p : PV} {v : V} (r : RV K H φ M p v) : ∀ {ps : List (Str × PV)} {vs : List (Str × V)}, RFs K H φ M ps vs → RFs K H φ M (putP f p ps) (putF f v vs)
  | _, _, .nil => .cons r .nil
  | _, _, @RFs.cons _ _ _ _ x q u ps vs r2 rs => by
    unfold putP putF
    by_cases h : x = f
    · rw [if_pos h, if_pos h]; exact .cons r rs
    · rw [if_neg h, if_neg h]; exact .cons r2 (rs.put r)
theorem WF.ins (w : WF K H φ S F) {n : Nat} {c : Str} {fs : List (Str × PV)} {a : Addr} (e : S[n]? = some (some (.ins c fs))) (f : φ[n]? = some a) : ∃ dx gs, H a = some (.ins (ga K c) dx gs) ∧ RFs K H φ (uni (Lv φ S) F) fs gs := by
  obtain ⟨b, ho, h1, h2, h3⟩ := w.live n _ e
  rw [f] at h1
  cases h1
  cases h3 with
  | ins r => exact ⟨_, _, h2, r⟩
def fldG (c f : Str) : PV → AS → R PV := fun p S => match p with
  | .ref n => match S[n]? with
    | some (some (.ins d fs)) => if d = c then ofO (fs.lookup f) S else .stuck
    | _ => .stuck
  | _ => .stuck
def fldF (c f : Str) (a : FE) : FE := fun η S => (a η S).bind fun p S => fldG c f p S
theorem se_fld {c f : Str} {ta : TE} {fa : FE} (hc : Cls K (ga K c)) (hn : NoAttr K (ga K c) f) (a : SimE K pv E ta fa) : SimE K pv E (tFld K ta f) (fldF c f fa) := fun H φ S F O η σ Q w hO re h => by
  refine a H φ S F O η σ _ w hO re (h.bind.imp fun p φ1 S1 H1 e1 w1 h1 x rx => ?_)
  unfold fldG at h1
  split at h1
  · split at h1
    · rename_i n d fs e0
      split at h1
      · rename_i hd
        subst hd
        cases rx with
        | ref ha =>
          obtain ⟨dx, gs, h2, r⟩ := w1.ins e0 ha
          obtain ⟨q, e, k⟩ := ofO_go w1 h1
          obtain ⟨v, e2, rv⟩ := r.get e
          exact ⟨_, _, dx, gs, v, rfl, h2, hc, hn, e2, k v rv⟩
      · exact h1.elim
    · exact h1.elim
  · exact h1.elim
def fldS (c f : Str) (o a : FE) : FS := fun η S => lift (a η S) η fun p S => lift (o η S) η fun q S => match q with
  | .ref n => match S[n]? with
    | some (some (.ins d fs)) => if d = c ∧ fs.length < 1000 then .nx η (S.set n (some (.ins c (putP f p fs)))) else .stuck
    | _ => .stuck
  | _ => .stuck
theorem ss_fld {c f : Str} {ta tv : TE} {fo fa : FE} (hc : Cls K (ga K c)) (hn : NoAttr K (ga K c) f) (o : SimE K pv E ta fo) (a : SimE K pv E tv fa) : SimS K pv E (sFld K ta tv f) (fldS c f fo fa) := fun H φ S F η σ D w h => by
  refine a H φ S _ _ η σ _ w.wf (fun _ z => .inr z) w.re ((GoS.lift w h).imp fun p φ1 S1 H1 e1 w1 h1 y ry => ?_)
  obtain ⟨h1, ws1⟩ := h1
  refine o H1 φ1 S1 _ _ η σ _ ws1.wf (fun _ z => .inr z) ws1.re ((GoS.lift ws1 h1).imp fun q φ2 S2 H2 e2 w2 h2 x rx => ?_)
  obtain ⟨h2, ws2⟩ := h2
  split at h2
  · split at h2
    · rename_i n d fs e0
      split at h2
      · rename_i hd
        obtain ⟨rfl, hl⟩ := hd
        cases rx with
        | ref ha =>
          obtain ⟨dx, gs, h3, r⟩ := ws2.wf.ins e0 ha
          obtain ⟨w3, e3⟩ := ws2.wf.put (o' := .ins d (putP f p fs)) e0 ha (.ins (r.put (e2.rv ry)))
          exact ⟨_, _, dx, gs, rfl, h3, hc, hn, by rw [r.len]; exact hl, h2 φ2 _ σ (EvS.of e3) (ws2.step e3 w3)⟩
      · exact h2.elim
    · exact h2.elim
  · exact h2.elim
/-! ### methods -/
def methF (c : Str) (n : Nat) (m : Str) (f : Fn) (o : FE) (a : FA) : FE := fun η S => (o η S).bind fun p S => match p with
  | .ref i => match S[i]? with
    | some (some (.ins d fs)) => if d = c ∧ fs.lookup m = none then (a η S).bind fun ps S => if ps.length + 1 = n then f (p :: ps) S else .stuck else .stuck
    | _ => .stuck
  | _ => .stuck
theorem se_meth {c m : Str} {n : Nat} {f : Fn} {to : TE} {t : TA} {fo : FE} {fa : FA} {X : XK} (o : SimE K pv (fun _ => X) to fo) (a : SimA K pv (fun _ => X) t fa) : SimE K pv (fun _ => X) (tMeth (ga K c) m (spF K n f) [] X to t) (methF c n m f fo fa) := fun H φ S F O η σ Q w hO re h => by
  refine o H φ S F O η σ _ w hO re (h.bind.imp fun p φ1 S1 H1 e1 w1 h1 x rx => ?_)
  split at h1
  · split at h1
    · rename_i d fs e0
      split at h1
      · rename_i hd
        obtain ⟨rfl, hm⟩ := hd
        cases rx with
        | @ref _ ad ha =>
          obtain ⟨dx, gs, h3, r⟩ := w1.ins e0 ha
          refine ⟨_, dx, gs, rfl, h3, r.none hm, a H1 φ1 S1 F O η σ _ w1 hO (re.mono w hO e1) (h1.bind.imp fun ps φ2 S2 H2 e2 w2 h2 vs rs => ?_)⟩
          split at h2
          · rename_i hl
            rw [List.append_nil]
            exact ⟨φ2, S2, F, _ :: ps, hl, w2, .cons (e2.rv (.ref ha)) rs, h2⟩
          · exact h2.elim
      · exact h1.elim
    · exact h1.elim
  · exact h1.elim
/-! ### new instances -/
def mkF (c : Str) (n : Nat) (f : Fn) (a : FA) : FE := fun η S => (a η S).bind fun ps S => if ps.length + 1 = n then match f (.ref S.length :: ps) (S ++ [some (.ins c [])]) with
    | .ok .non S' => .ok (.ref S.length) S'
    | .exc d fs S' => .exc d fs S'
    | _ => .stuck
  else .stuck
/-- a new instance is there -/
theorem made (w : WF K H φ S F) {c : Str} {x dx : Addr} (hx : H x = none) (hd : H dx = none) (ne : dx ≠ x) :
    WF K (upd (upd H dx (.own x)) x (.ins (ga K c) dx [])) (φ ++ [x]) (S ++ [some (.ins c [])]) F ∧ Ev H φ (Lv φ S) (upd (upd H dx (.own x)) x (.ins (ga K c) dx [])) (φ ++ [x]) (Lv (φ ++ [x]) (S ++ [some (.ins c [])])) := by
  have w1 := w.new (o := .own x) hd
  have e1 : Ev H φ (Lv φ S) (upd H dx (.own x)) φ (Lv φ S) := ev_new hd
  obtain ⟨w2, e2⟩ := w1.alloc (p := x) (o := .ins c []) (ho := .ins (ga K c) dx []) ((upd_ne (Ne.symm ne)).trans hx) (.ins .nil)
  exact ⟨w2, e1.trans e2⟩
theorem mk_go {c : Str} {n : Nat} {f : Fn} {X : XK} {ps : List PV} {vs : List V} {Q : VK} (w : WF K H φ S F) (rs : RVs K H φ (uni (Lv φ S) F) ps vs) (hl : ps.length + 1 = n)
    (h : GoE K X F H φ S (match f (.ref S.length :: ps) (S ++ [some (.ins c [])]) with
      | .ok .non S' => R.ok (PV.ref S.length) S'
      | .exc d fs S' => .exc d fs S'
      | _ => .stuck) (fun p φ' S' H' => ∀ v, RV K H' φ' (uni (Lv φ' S') F) p v → Q v H')) :
    ∀ x dx, H x = none → H dx = none → dx ≠ x → spF K n f (.ref x :: vs) (upd (upd H dx (.own x)) x (.ins (ga K c) dx [])) (fun v H2 => v = .non ∧ Q (.ref x) H2) X := fun x dx hx hd ne => by
  obtain ⟨w2, e2⟩ := made (c := c) w hx hd ne
  have rx : ∀ {φ' : List Addr}, (∀ (k : Nat) a, (φ ++ [x])[k]? = some a → φ'[k]? = some a) → φ'[S.length]? = some x := fun hp => hp _ _ (by rw [List.getElem?_append_right (by rw [w.len]; exact Nat.le_refl _)]; simp [w.len])
  refine ⟨φ ++ [x], S ++ [some (.ins c [])], F, .ref S.length :: ps, by rw [List.length_cons]; exact hl, w2, .cons (.ref (rx fun _ _ z => z)) (e2.rvs rs), ?_⟩
  cases q : f (.ref S.length :: ps) (S ++ [some (.ins c [])]) with
  | ok a S' =>
    rw [q] at h
    cases a with
    | non =>
      intro φ' H' e' w' v rv
      cases rv
      exact ⟨rfl, h φ' H' (e2.trans e') w' _ (.ref (rx e'.pre))⟩
    | _ => exact (show False from h).elim
  | exc d fs S' =>
    rw [q] at h
    exact fun φ' H' d e' w' x => h φ' H' d (e2.trans e') w' x
  | stuck => rw [q] at h; exact (show False from h).elim
theorem se_mk {c : Str} {n : Nat} {f : Fn} {t : TA} {fa : FA} {X : XK} (a : SimA K pv (fun _ => X) t fa) : SimE K pv (fun _ => X) (tMake (ga K c) (spF K n f) [] X t) (mkF c n f fa) := fun H φ S F O η σ Q w hO re h => by
  refine a H φ S F O η σ _ w hO re (h.bind.imp fun ps φ1 S1 H1 e1 w1 h1 vs rs => ?_)
  split at h1
  · rename_i hl
    rw [List.append_nil]
    exact mk_go w1 rs hl h1
  · exact h1.elim
/-- all by keywords, in the parameters' order -/
theorem se_mkK {c : Str} {n m : Nat} {f : Fn} {t : TA} {fa : FA} {X : XK} (hm : m + 1 = n) (a : SimA K pv (fun _ => X) t fa) : SimE K pv (fun _ => X) (tMakeK (ga K c) 0 m (spF K n f) (fun vs zs => vs ++ zs) X tNil t) (mkF c n f fa) := fun H φ S F O η σ Q w hO re h => by
  show t σ H _
  refine a H φ S F O η σ _ w hO re (h.bind.imp fun ps φ1 S1 H1 e1 w1 h1 vs rs => ?_)
  split at h1
  · rename_i hl
    exact ⟨rfl, by rw [rs.len]; omega, mk_go w1 rs hl h1⟩
  · exact h1.elim
end
section
variable {X : Cx} {CX : CXT} {k n : Nat} {x : Str} {ps ks : List Str} {sp : Sp} {E : XK} {p pos apos : Pos} {ta : TE} {m : Str} {C : Addr} {o : Expr} {kws : List Keyword} {tk : TA} {gV : List V → List V → List V}
/-- an __init__ with keyword-only parameters -/
structure KOk (P : Program) (w : World) (K : PySem.W.Frag) (mg : Str → Option Value) (base : Heap) (CX : CXT) (k : Nat) (a : Addr) (ps : List Str) (n : Nat) (ks : List Str) (gV : List V → List V → List V) (sp : Sp) : Prop where
  ex : ∃ (fd : FuncData) (g : List Value → List Value → List Value), KBn K fd ps n ks g gV ∧ FnOk P w K mg base CX k a fd ps sp
theorem pe_mkK {f : Addr} (M : Mk X.K C f) (G : KOk X.prog X.w X.K X.mg X.base CX k f ps 1 ks gV sp) (hm : X.mg x = some (.ref C)) (hr : Room (k + 1) X.A) (hx : Passes CX X E) (hkw : PK X kws tk) (hg : Gl X x := by rfl)
    (hall : (backToKw pos (keywordEach kws X.env)).all (·.1.isSome) = true := by rfl) (hks : (backToKw pos (keywordEach kws X.env)).filterMap (·.1) = ks := by rfl) (hdb : (x == ("__debug__" : Str)) = false := by decide)
    (hpl : ((backTo pos (starEach [] X.env)).any (·.1) || (backToKw pos (keywordEach kws X.env)).any (·.1.isNone)) = false := by rfl) :
    PE X (.Call (.Name x p) [] kws pos) (tMakeK C 0 ks.length sp gV E tNil tk) := by
  obtain ⟨fd, g, h2, h3⟩ := G.ex
  exact pe_makeK0 M h3 hr hg hm h2 hx hkw hall hks hdb hpl
/-- o.m() -/
theorem pe_m0 {pl : Sem Bool} (G : Hk.AOk X.prog X.w X.K X.mg X.base CX k (He.ma X.K C m) ps sp) (c : Cls X.K C) (hm : Meth X.K C m (He.ma X.K C m)) (hr : Room k X.A) (hx : Passes CX X E) (he : PE X o ta)
    (ht : eval (.Call (.Attribute o m apos) [] [] pos) X.env = (do
      let ov ← eval o X.env
      standAt apos.atName
      let (f, first) ← holding [ov] (getMethod ov m pl)
      callWith pos f first (backTo pos (starEach [] X.env)) (backToKw pos (keywordEach [] X.env))) := by rfl) :
    PE X (.Call (.Attribute o m apos) [] [] pos) (tMeth C m sp [] E ta tNil) := by
  obtain ⟨fd, h2, h3⟩ := G.ex
  exact pe_meth0 he c hm h3 hr h2 .nil hx ht
end
end Fu

end
section
set_option Elab.async false
set_option linter.all false
set_option maxRecDepth 100000
set_option maxHeartbeats 4000000
namespace Fu
open PySem PySem.Spec PyProof.Rows L2
open He (ga)
/-! ### setdefault of a dict whose keys are tuples -/
section
variable {X : Cx} {pins : List (Addr × Obj)} {σ : L2.St} {H : Hp} {s : Shared} {a b : Addr} {r : Value} {d : V} {k : List Key} {A : Around} {E : Value → Shared → Prop}
theorem d_setdT {kvs : List (List Key × V)} {Q : Value → Shared → Prop} (hu : A.units + 1 < cLine) (I : Inv X pins σ H s) (e : H a = some (.dT kvs)) (eb : H b = some (.tup (k.map kV))) (rd : RelV d r) (hl : kvs.length < sizeLine)
    (h1 : ∀ v, valV kvs k = some v → ∀ (y : Value) (s' : Shared), Inv X pins σ H s' → RelV v y → Q y s') (h2 : valV kvs k = none → ∀ (y : Value) (s' : Shared), Inv X pins σ (upd H a (.dT (putK kvs k d))) s' → RelV d y → Q y s') :
    wpAny (model X.prog X.w) A (call (.builtin "dict.setdefault") [.ref a, .ref b, r]) Q E s := by
  obtain ⟨z, hd, xs, rel, dd⟩ := dt_of I.hok e
  have hz : xs.length ≤ sizeLine := Paired.length rel ▸ z
  refine call_meetsIn PySem.F.slot_dict_setdefault dd.typeIs PySem.F.entry_dict_setdefault (PySem.F.args_dict_setdefault_3 _ _ _) (meetsH_dict_setdefault (tupleKind (mixKind X.prog X.w)) a b hd r) ⟨tupleKind_room_in1 hu, k, xs, key_of I.hok eb, dd, hz, fun p hp => ?_, fun hn h' dd' hs => ?_⟩
  · have q := rel.val k
    rw [hp] at q
    cases q0 : valV kvs k with
    | none => rw [q0] at q; exact (show False from q).elim
    | some v0 => rw [q0] at q; exact h1 v0 q0 _ _ (I.tok _) q
  · have q := rel.val k
    rw [hn] at q
    cases q0 : valV kvs k with
    | some v0 => rw [q0] at q; exact (show False from q).elim
    | none =>
      have hm : (putK kvs k d).length ≤ sizeLine := Nat.le_trans (length_putK kvs k d) hl
      obtain ⟨ob, es, ep, ho, g2, g3, g4, _, g5⟩ := dd'
      refine h2 q0 _ _ (d_write I (by rw [e]; exact True.intro) hs ⟨ob, ho⟩ ⟨hm, hd, _, (rel.put k eb rd).keeps fun c ys ec => ?_, ob, es, ep, ho, g2, g3, g4, g5⟩) rd
      exact (upd_ne (ne_of ec e nofun)).trans ec
end
def tDSetdT (td ty tx : TE) : TE := fun σ H Q => td σ H fun x H1 => ∃ a, x = .ref a ∧ IsD H1 a ∧ ty σ H1 fun y H2 => tx σ H2 fun z H3 => ∃ (kvs : List (List Key × V)) (k : List Key) (b : Addr), H3 a = some (.dT kvs) ∧ y = .ref b ∧ H3 b = some (.tup (k.map kV)) ∧ kvs.length < sizeLine ∧
  (∀ v, valV kvs k = some v → Q v H3) ∧ (valV kvs k = none → Q z (upd H3 a (.dT (putK kvs k z))))
section
variable {X : Cx} {o e f : Expr} {td ty tx : TE} {apos cpos : Pos}
theorem pe_dsetdT (hu : X.A.units + 1 < cLine) (ho : PE X o td) (he : PE X e ty) (hf : PE X f tx) (m : M2 X o "setdefault" apos e f cpos) : PE X (.Call (.Attribute o "setdefault" apos) [e, f] [] cpos) (tDSetdT td ty tx) := by
  refine ⟨fun pins s σ H Q I h => wpAny_Call_method m.base m.few m.line PySem.F.plainAttrs_dict PySem.F.slot_dict_setdefault PySem.F.type_dict_setdefault (thn (ho.run pins s σ H _ I h) fun u s1 ⟨x, H1, I1, rx, a, ex, d, q1⟩ => ?_)⟩
  subst ex
  cases (show u = Value.ref a from rx)
  refine ⟨(isD_at I1 d).1, (isD_at I1 d).2.1, ?_⟩
  rw [m.trees]
  refine Calls.callWith_builtin rfl (Calls.evalArgs_plain (Calls.spliced_cons (thn (he.run pins s1 σ H1 _ I1 q1) fun iv s2 ⟨y, H2, I2, ry, q2⟩ => Calls.spliced_cons (thn (hf.run pins s2 σ H2 _ I2 q2) fun fv s3 ⟨z, H3, I3, rz, kvs, k, b, ea, ey, eb, hl, q3, q4⟩ => Calls.spliced_nil ?_))))
  subst ey
  cases (show iv = Value.ref b from ry)
  exact d_setdT hu I3 ea eb rz hl (fun v hv y s4 I4 ry => ⟨v, _, I4, ry, q3 v hv⟩) fun hn y s4 I4 ry => ⟨z, _, I4, ry, q4 hn⟩
end
section
variable {K : PySem.W.Frag} {pv : V × Option Addr} {E : XW} {F O : Addr → Prop} {H H' H1 H3 : Hp} {φ φ' φ1 : List Addr} {S S' S1 : AS} {M : Addr → Prop} {η : Sls} {σ : L2.St}
/-! ### dicts -/
def findT (k : List Key) : List (PV × PV) → Option PV
  | [] => none
  | (p, v) :: r => if tupKey p = some k then some v else findT k r
theorem RTs.find {k : List Key} : ∀ {kvs : List (PV × PV)} {ws : List (List Key × V)}, RTs K H φ M kvs ws → (findT k kvs = none ∧ valV ws k = none) ∨ ∃ p v, findT k kvs = some p ∧ valV ws k = some v ∧ RV K H φ M p v
  | _, _, .nil => .inl ⟨rfl, rfl⟩
  | _, _, @RTs.cons _ _ _ _ q x p v ps vs e r rs => by
    unfold findT
    by_cases h : x = k
    · subst h
      exact .inr ⟨p, v, by rw [if_pos e], valV_pos rfl, r⟩
    · rw [if_neg (by rw [e]; exact fun z => h (Option.some.inj z)), valV_neg h]
      exact rs.find
theorem RTs.len : ∀ {kvs : List (PV × PV)} {ws : List (List Key × V)}, RTs K H φ M kvs ws → ws.length = kvs.length
  | _, _, .nil => rfl
  | _, _, .cons _ _ r => congrArg Nat.succ r.len
theorem RTs.snoc {k : List Key} {q p : PV} {v : V} (e : tupKey q = some k) (r : RV K H φ M p v) : ∀ {kvs : List (PV × PV)} {ws : List (List Key × V)}, RTs K H φ M kvs ws → RTs K H φ M (kvs ++ [(q, p)]) (ws ++ [(k, v)])
  | _, _, .nil => .cons e r .nil
  | _, _, .cons e2 r2 rs => .cons e2 r2 (rs.snoc e r)
theorem keysOf_ok : ∀ {ps : List PV} {vs : List V} {ks : List Key}, RVs K H φ M ps vs → keysOf ps = some ks → vs = ks.map kV
  | [], _, _, .nil, e => by cases e; rfl
  | p :: ps, _, _, .cons r rs, e => by
    unfold keysOf at e
    split at e
    · rename_i k ks' e1 e2
      cases e
      rw [keysOf_ok rs e2]
      cases r with
      | int => cases e1; rfl
      | str => cases e1; rfl
      | _ => cases e1
    · cases e
theorem tupKey_ok {p : PV} {v : V} {k : List Key} (r : RV K H φ M p v) (e : tupKey p = some k) : ∃ b, v = .ref b ∧ H b = some (.tup (k.map kV)) := by
  unfold tupKey at e
  split at e
  · cases r with
    | tup h rs => exact ⟨_, rfl, by rw [← keysOf_ok rs e]; exact h.1⟩
  · cases e
def dnewT : FE := fun _ S => .ok (.ref S.length) (S ++ [some (.dct [])])
def dnewK : FE := fun _ S => .ok (.ref S.length) (S ++ [some (.dic [])])
theorem last_at (w : WF K H φ S F) {p : Addr} : (φ ++ [p])[S.length]? = some p := by
  rw [List.getElem?_append_right (by rw [w.len]; exact Nat.le_refl _)]
  simp [w.len]
theorem se_dnewT : SimE K pv E tDNewT dnewT := fun H φ S F O η σ Q w hO re h => fun p hp => by
  obtain ⟨w2, e2⟩ := w.alloc (o := .dct []) (ho := .dT []) hp (.dT .nil)
  exact h _ _ e2 w2 _ (.ref (last_at w))
theorem se_dnewK : SimE K pv E tDNewK dnewK := fun H φ S F O η σ Q w hO re h => fun p hp => by
  obtain ⟨w2, e2⟩ := w.alloc (o := .dic []) (ho := .dK []) hp (.dK .nil)
  exact h _ _ e2 w2 _ (.ref (last_at w))
theorem WF.dct (w : WF K H φ S F) {n : Nat} {kvs : List (PV × PV)} {a : Addr} (e : S[n]? = some (some (.dct kvs))) (f : φ[n]? = some a) : ∃ ws, H a = some (.dT ws) ∧ RTs K H φ (uni (Lv φ S) F) kvs ws := by
  obtain ⟨b, ho, h1, h2, h3⟩ := w.live n _ e
  rw [f] at h1
  cases h1
  cases h3 with
  | dT r => exact ⟨_, h2, r⟩
def isDct : PV → AS → Bool := fun p S => match p with
  | .ref n => match S[n]? with
    | some (some (.dct _)) => true
    | _ => false
  | _ => false
def setdG (p k d : PV) : AS → R PV := fun S => match p with
  | .ref n => match S[n]?, tupKey k with
    | some (some (.dct kvs)), some ks => if kvs.length < 1000000 then match findT ks kvs with
        | some v => .ok v S
        | none => .ok d (S.set n (some (.dct (kvs ++ [(k, d)]))))
      else .stuck
    | _, _ => .stuck
  | _ => .stuck
def setdF (o a b : FE) : FE := fun η S => (o η S).bind fun p S => if isDct p S = true then (a η S).bind fun k S => (b η S).bind fun d S => setdG p k d S else .stuck
theorem isDct_ok {p : PV} {x : V} (w : WF K H φ S F) (r : RV K H φ M p x) (e : isDct p S = true) : ∃ a, x = .ref a ∧ IsD H a := by
  unfold isDct at e
  split at e
  · split at e
    · rename_i e0
      cases r with
      | ref ha =>
        obtain ⟨ws, h1, _⟩ := w.dct e0 ha
        exact ⟨_, rfl, .inr ⟨ws, .inl h1⟩⟩
    · cases e
  · cases e
theorem se_setd {td ty tx : TE} {fo fa fb : FE} (o : SimE K pv E td fo) (a : SimE K pv E ty fa) (b : SimE K pv E tx fb) : SimE K pv E (tDSetdT td ty tx) (setdF fo fa fb) := fun H φ S F O η σ Q w hO re h => by
  refine o H φ S F O η σ _ w hO re (h.bind.imp fun p φ1 S1 H1 e1 w1 h1 x rx => ?_)
  split at h1
  · rename_i hd
    obtain ⟨ad, rfl, hi⟩ := isDct_ok w1 rx hd
    refine ⟨ad, rfl, hi, a H1 φ1 S1 F O η σ _ w1 hO (re.mono w hO e1) (h1.bind.imp fun k φ2 S2 H2 e2 w2 h2 y ry => ?_)⟩
    refine b H2 φ2 S2 F O η σ _ w2 hO ((re.mono w hO e1).mono w1 hO e2) (h2.bind.imp fun d φ3 S3 H3 e3 w3 h3 z rz => ?_)
    have rx3 := e3.rv (e2.rv rx)
    have ry3 := e3.rv ry
    unfold setdG at h3
    split at h3
    · split at h3
      · split at h3
        · rename_i n kvs ks e0 ek hl
          cases rx3 with
          | ref ha =>
            obtain ⟨ws, hw, rs⟩ := w3.dct e0 ha
            obtain ⟨bd, rfl, hb⟩ := tupKey_ok ry3 ek
            refine ⟨ws, ks, bd, hw, rfl, hb, by rw [rs.len, sizeLine_eq]; omega, fun v hv => ?_, fun hv => ?_⟩
            · rcases rs.find (k := ks) with ⟨q1, q2⟩ | ⟨p', v', q1, q2, q3⟩
              · rw [q2] at hv; cases hv
              · rw [q2] at hv
                cases hv
                rw [q1] at h3
                exact h3.ok w3 _ q3
            · rcases rs.find (k := ks) with ⟨q1, q2⟩ | ⟨p', v', q1, q2, q3⟩
              · rw [q1] at h3
                obtain ⟨w4, e4⟩ := w3.put (o' := .dct (kvs ++ [(k, d)])) e0 ha (.dT (rs.snoc ek rz))
                rw [putK_new _ hv]
                exact h3 φ3 _ e4 w4 _ (e4.rv rz)
              · rw [q2] at hv; cases hv
        · exact h3.elim
      · exact h3.elim
    · exact h3.elim
  · exact h1.elim
def getdG (p k d : PV) : AS → R PV := fun S => match p with
  | .ref n => match S[n]?, tupKey k with
    | some (some (.dct kvs)), some ks => .ok ((findT ks kvs).getD d) S
    | _, _ => .stuck
  | _ => .stuck
def getdF (o a b : FE) : FE := fun η S => (o η S).bind fun p S => if isDct p S = true then (a η S).bind fun k S => (b η S).bind fun d S => getdG p k d S else .stuck
theorem se_getd {td ty tx : TE} {fo fa fb : FE} (o : SimE K pv E td fo) (a : SimE K pv E ty fa) (b : SimE K pv E tx fb) : SimE K pv E (tDGet2 td ty tx) (getdF fo fa fb) := fun H φ S F O η σ Q w hO re h => by
  refine o H φ S F O η σ _ w hO re (h.bind.imp fun p φ1 S1 H1 e1 w1 h1 x rx => ?_)
  split at h1
  · rename_i hd
    obtain ⟨ad, rfl, hi⟩ := isDct_ok w1 rx hd
    refine ⟨ad, rfl, hi, a H1 φ1 S1 F O η σ _ w1 hO (re.mono w hO e1) (h1.bind.imp fun k φ2 S2 H2 e2 w2 h2 y ry => ?_)⟩
    refine b H2 φ2 S2 F O η σ _ w2 hO ((re.mono w hO e1).mono w1 hO e2) (h2.bind.imp fun d φ3 S3 H3 e3 w3 h3 z rz => ?_)
    have rx3 := e3.rv (e2.rv rx)
    have ry3 := e3.rv ry
    unfold getdG at h3
    split at h3
    · split at h3
      · rename_i n kvs ks e0 ek
        cases rx3 with
        | ref ha =>
          obtain ⟨ws, hw, rs⟩ := w3.dct e0 ha
          obtain ⟨bd, rfl, hb⟩ := tupKey_ok ry3 ek
          refine ⟨valV ws ks, DGet.t hw hb, ?_⟩
          rcases rs.find (k := ks) with ⟨q1, q2⟩ | ⟨p', v', q1, q2, q3⟩
          · rw [q1] at h3; rw [q2]; exact h3.ok w3 _ rz
          · rw [q1] at h3; rw [q2]; exact h3.ok w3 _ q3
      · exact h3.elim
    · exact h3.elim
  · exact h1.elim
end
end Fu

end
section
set_option Elab.async false
set_option linter.all false
set_option maxRecDepth 100000
set_option maxHeartbeats 4000000
namespace Fu
open PySem PySem.Spec PyProof.Rows L2 RZ
open He (ga)
/-! ### zip of a tuple and a list -/
section
variable {prog : Program} {w : World} {A : Around} {E : Value → Shared → Prop} {s : Shared} {z TI TO i1 i2 l1 l2 : Addr} {k : Nat} {xs ys : Array Value} {x y a b : Value}
/-- what the objects of such a zip are at a turn -/
structure ZM (h : Heap) (z TI TO i1 i2 l1 l2 : Addr) (k : Nat) (a b : Value) (xs ys : Array Value) : Prop where
  ti : IsPair h TI (.ref i1) (.ref i2)
  to : IsPair h TO a b
  h1 : h.IsTupleIter i1 l1 k
  h2 : h.IsListIter i2 l2 k
  t1 : h.IsTuple l1 xs
  t2 : h.IsList l2 ys
abbrev Keeps4 (h h' : Heap) (z TO i1 i2 : Addr) : Prop := ∀ c o, c ≠ z → c ≠ TO → c ≠ i1 → c ≠ i2 → h.get? c = some o → h'.get? c = some o
theorem zm_item {Q : Value → Shared → Prop} (D : ZipApart z TI TO i1 i2 l1 l2) (hz : IsZip s.heap z TI TO .none) (m : ZM s.heap z TI TO i1 i2 l1 l2 k a b xs ys) (hx : xs[k]? = some x) (hy : ys[k]? = some y)
    (hQ : ∀ h', IsZip h' z TI TO (rawInt s.heap.objs.size) ∧ IsPair h' TO x y ∧ h'.IsTupleIter i1 l1 (k + 1) ∧ h'.IsListIter i2 l2 (k + 1) ∧ IsPair h' s.heap.objs.size x y → Keeps4 s.heap h' z TO i1 i2 → Q (.ref s.heap.objs.size) { s with heap := h' }) :
    wpAny (model prog w) A (Builtin.«zip.__next__» ⟨[.ref z], []⟩) (fun fin s' => ∃ v, fin = .done (.ret v) ∧ Q v s') E s := by
  show wpAny _ _ (field (.ref z) 2 >>= _) _ _ _
  refine wpAny_bind (wpAny_field hz rfl (x := .bool false) rfl (show wpAny _ _ (field (.ref z) 3 >>= _) _ _ _ from wpAny_bind (wpAny_field hz rfl (x := .ref TI) rfl (wpAny_bind (wpAny_seqItems m.ti rfl (show wpAny _ _ (Builtin.SmallTypes.ownedTupleIsFree (.ref z) >>= _) _ _ _ from wpAny_bind ?_))))))
  unfold Builtin.SmallTypes.ownedTupleIsFree
  refine wpAny_bind (wpAny_field hz rfl (x := .none) rfl (wpAny_pure ?_))
  rw [if_pos (by rfl)]
  refine wpAny_bind (wpAny_rule (wpAny_bind (wpAny_field hz rfl (x := .ref TO) rfl (wpAny_bind (wpAny_setField_rec hz (by simp) fun g1 z1 q1 => ?_)))))
  have Z1 : IsZip g1 z TI TO .ellipsis := z1
  refine wpAny_bind ?_
  simp only [List.zipIdx_cons, List.zipIdx_nil, List.forIn_cons, List.forIn_nil]
  refine wpAny_bind (wpAny_bind (wpAny_onRaise (show wpAny _ _ (Builtin.SmallTypes.nextOf (.ref i1) >>= _) _ _ _ from wpAny_bind (nextOf_tuple_item (m.h1.extBut q1.extBut D.i1z) (m.t1.extBut q1.extBut D.l1z) hx fun g2 n1 q2 => wpAny_pure ?_))))
  have p2 : IsPair g2 TO a b := q2.extBut _ _ D.TOi1 (q1.extBut _ _ D.TOz m.to)
  refine wpAny_bind (wpAny_seqItems p2 rfl (wpAny_bind (wpAny_updateSeq_pair p2 fun g3 p3 q3 => wpAny_bind (wpAny_letGo (wpAny_pure ?_)))))
  have P3 : IsPair g3 TO x b := p3
  have r1 : g3.IsListIter i2 l2 k := ((m.h2.extBut q1.extBut D.i2z).extBut q2.extBut D.i12.symm).extBut q3.extBut D.TOi2.symm
  have r2 : g3.IsList l2 ys := ((m.t2.extBut q1.extBut D.l2z).extBut q2.extBut D.l2i1).extBut q3.extBut D.l2TO
  refine wpAny_bind (wpAny_bind (wpAny_onRaise (show wpAny _ _ (Builtin.SmallTypes.nextOf (.ref i2) >>= _) _ _ _ from wpAny_bind (wpAny_nextOf_list_item r1 r2 hy fun g4 n2 q4 => wpAny_pure ?_))))
  have p4 : IsPair g4 TO x b := q4.extBut _ _ D.TOi2 P3
  refine wpAny_bind (wpAny_seqItems p4 rfl (wpAny_bind (wpAny_updateSeq_pair p4 fun g5 p5 q5 => wpAny_bind (wpAny_letGo (wpAny_pure (wpAny_pure ?_))))))
  have P5 : IsPair g5 TO x y := p5
  refine wpAny_bind (wpAny_seqItems P5 rfl (wpAny_bind (wpAny_newTuple ?_)))
  have sz : g5.objs.size = s.heap.objs.size := by rw [q5.1, q4.1, q3.1, q2.1, q1.1]
  have k5 : Keeps4 s.heap g5 z TO i1 i2 := fun c o c1 c2 c3 c4 e => q5.extBut _ _ c2 (q4.extBut _ _ c4 (q3.extBut _ _ c2 (q2.extBut _ _ c3 (q1.extBut _ _ c1 e))))
  have Z5 : IsZip g5 z TI TO .ellipsis := q5.extBut _ _ D.TOz.symm (q4.extBut _ _ D.i2z.symm (q3.extBut _ _ D.TOz.symm (q2.extBut _ _ D.i1z.symm Z1)))
  have m1 : g5.IsTupleIter i1 l1 (k + 1) := ((n1.extBut q3.extBut D.TOi1.symm).extBut q4.extBut D.i12).extBut q5.extBut D.TOi1.symm
  have m2 : g5.IsListIter i2 l2 (k + 1) := n2.extBut q5.extBut D.TOi2.symm
  have zl : z < g5.objs.size := Heap.lt_size Z5
  refine show wpAny _ _ (Builtin.SmallTypes.ownedTupleHandOut (.ref z) (.ref g5.objs.size) >>= _) _ _ _ from wpAny_bind ?_
  unfold Builtin.SmallTypes.ownedTupleHandOut
  have Z6 : IsZip (g5.push { cls := .type "tuple", data := .seq #[x, y] }) z TI TO .ellipsis := Heap.get?_push_of_some _ Z5
  refine wpAny_bind (wpAny_setField_rec Z6 (by simp) fun g7 z7 q7 => wpAny_setField_rec (show IsZip g7 z TI TO (rawInt g5.objs.size) from z7) (by simp) fun g8 z8 q8 => ?_)
  have up : ∀ c o, c ≠ z → g5.get? c = some o → g8.get? c = some o := fun c o c1 e => q8.extBut _ _ c1 (q7.extBut _ _ c1 (Heap.get?_push_of_some _ e))
  have T8 : IsPair g8 g5.objs.size x y := q8.extBut _ _ (Nat.ne_of_gt zl) (q7.extBut _ _ (Nat.ne_of_gt zl) (Heap.get?_push_size _ rfl))
  have Z8 : IsZip g8 z TI TO (rawInt g5.objs.size) := z8
  rw [sz] at T8 Z8
  refine wpAny_pure ⟨_, rfl, ?_⟩
  show Q (.ref g5.objs.size) _
  rw [sz]
  exact hQ g8 ⟨Z8, up _ _ D.TOz P5, m1.at fun o e => up _ o D.i1z e, m2.at fun o e => up _ o D.i2z e, T8⟩ fun c o c1 c2 c3 c4 e => up c o c1 (k5 c o c1 c2 c3 c4 e)
theorem zm_end {Q : Fin → Shared → Prop} (hh : A.handled = none) (D : ZipApart z TI TO i1 i2 l1 l2) (hz : IsZip s.heap z TI TO .none) (m : ZM s.heap z TI TO i1 i2 l1 l2 k a b xs ys) (hend : xs[k]? = none ∨ ys[k]? = none)
    (hE : ∀ h' e, Keeps4 s.heap h' z TO i1 i2 → (∃ o, h'.get? e = some o ∧ o.cls = .type "StopIteration") → E (.ref e) { s with heap := h' }) : wpAny (model prog w) A (Builtin.«zip.__next__» ⟨[.ref z], []⟩) Q E s := by
  show wpAny _ _ (field (.ref z) 2 >>= _) _ _ _
  refine wpAny_bind (wpAny_field hz rfl (x := .bool false) rfl (show wpAny _ _ (field (.ref z) 3 >>= _) _ _ _ from wpAny_bind (wpAny_field hz rfl (x := .ref TI) rfl (wpAny_bind (wpAny_seqItems m.ti rfl (show wpAny _ _ (Builtin.SmallTypes.ownedTupleIsFree (.ref z) >>= _) _ _ _ from wpAny_bind ?_))))))
  unfold Builtin.SmallTypes.ownedTupleIsFree
  refine wpAny_bind (wpAny_field hz rfl (x := .none) rfl (wpAny_pure ?_))
  rw [if_pos (by rfl)]
  refine wpAny_bind (wpAny_rule (wpAny_bind (wpAny_field hz rfl (x := .ref TO) rfl (wpAny_bind (wpAny_setField_rec hz (by simp) fun g1 z1 q1 => ?_)))))
  have Z1 : IsZip g1 z TI TO .ellipsis := z1
  refine wpAny_bind ?_
  simp only [List.zipIdx_cons, List.zipIdx_nil, List.forIn_cons, List.forIn_nil]
  refine wpAny_bind (wpAny_bind (wpAny_onRaise (show wpAny _ _ (Builtin.SmallTypes.nextOf (.ref i1) >>= _) _ _ _ from ?_)))
  have u1 := m.h1.extBut q1.extBut D.i1z
  have u2 := m.t1.extBut q1.extBut D.l1z
  cases hx : xs[k]? with
  | none =>
    refine wpAny_bind (nextOf_tuple_end hh u1 u2 hx fun g2 e q2 ⟨oe, he, ce⟩ => ?_)
    have Z2 : IsZip g2 z TI TO .ellipsis := q2 _ _ D.i1z.symm Z1
    have ez : e ≠ z := fun x => by subst x; rw [Z2] at he; cases he; simp at ce
    exact wpAny_setField_rec Z2 (by simp) fun g3 _ q3 => hE g3 e (fun c o c1 _ c3 _ x => q3.extBut _ _ c1 (q2 _ _ c3 (q1.extBut _ _ c1 x))) ⟨oe, q3.extBut _ _ ez he, ce⟩
  | some x =>
    have hy : ys[k]? = none := hend.elim (fun h => by rw [hx] at h; cases h) id
    refine wpAny_bind (nextOf_tuple_item u1 u2 hx fun g2 n1 q2 => wpAny_pure ?_)
    have p2 : IsPair g2 TO a b := q2.extBut _ _ D.TOi1 (q1.extBut _ _ D.TOz m.to)
    refine wpAny_bind (wpAny_seqItems p2 rfl (wpAny_bind (wpAny_updateSeq_pair p2 fun g3 p3 q3 => wpAny_bind (wpAny_letGo (wpAny_pure (wpAny_bind (wpAny_bind (wpAny_onRaise (show wpAny _ _ (Builtin.SmallTypes.nextOf (.ref i2) >>= _) _ _ _ from ?_)))))))))
    have r1 : g3.IsListIter i2 l2 k := ((m.h2.extBut q1.extBut D.i2z).extBut q2.extBut D.i12.symm).extBut q3.extBut D.TOi2.symm
    have r2 : g3.IsList l2 ys := ((m.t2.extBut q1.extBut D.l2z).extBut q2.extBut D.l2i1).extBut q3.extBut D.l2TO
    refine wpAny_bind (wpAny_nextOf_list_end hh r1 r2 hy fun g4 e q4 ⟨oe, he, ce⟩ => ?_)
    have Z4 : IsZip g4 z TI TO .ellipsis := q4 _ _ D.i2z.symm (q3.extBut _ _ D.TOz.symm (q2.extBut _ _ D.i1z.symm Z1))
    have ez : e ≠ z := fun x => by subst x; rw [Z4] at he; cases he; simp at ce
    exact wpAny_setField_rec Z4 (by simp) fun g5 _ q5 => hE g5 e (fun c o c1 c2 c3 c4 x => q5.extBut _ _ c1 (q4 _ _ c4 (q3.extBut _ _ c2 (q2.extBut _ _ c3 (q1.extBut _ _ c1 x))))) ⟨oe, q5.extBut _ _ ez he, ce⟩
/-- a new one -/
def zmHeap (h : Heap) (l1 l2 : Addr) : Heap :=
  ((((h.push { cls := .type "tuple_iterator", data := .fields #[.ref l1, .int 0 0] }).push { cls := .type "list_iterator", data := .fields #[.ref l2, .int 0 0] }).push { cls := .type "tuple", data := .seq #[.ref h.objs.size, .ref (h.objs.size + 1)] }).push { cls := .type "tuple", data := .seq #[.none, .none] }).push
    { cls := .type "zip", data := .fields #[.none, .bool false, .bool false, .ref (h.objs.size + 2), .ref (h.objs.size + 3)] }
theorem zm_meets (l1 l2 : Addr) (xs ys : Array Value) : Meets (Builtin.«zip.__new__» ⟨[.type "zip", .ref l1, .ref l2], []⟩) (fun _ R s => s.heap.IsTuple l1 xs ∧ s.heap.IsList l2 ys ∧ R (.ok (.ret (.ref (s.heap.objs.size + 4)))) { s with heap := zmHeap s.heap l1 l2 }) :=
  .of_wp fun prog w A R s h => by
    obtain ⟨hp, g, d, tk, os⟩ := s
    obtain ⟨hl1, hl2, h⟩ := h
    have hsub := sub_zip
    have L1 : Heap.IsTuple (Shared.heap ⟨hp, g, d, tk, os⟩) l1 xs := hl1
    have L2 : Heap.IsList (Shared.heap ⟨hp.push { cls := .type "tuple_iterator", data := .fields #[.ref l1, .int 0 0] }, g, d, tk, os⟩) l2 ys := hl2.at fun o e => Heap.get?_push_of_some _ e
    wp_walk using wpAny_pyIter_tuple L1, wpAny_pyIter_list L2
    refine ⟨_, rfl, ?_⟩
    unfold zmHeap at h
    simp only [Heap.size_push]
    exact h
theorem zm_call {Q : Value → Shared → Prop} (hl1 : s.heap.IsTuple l1 xs) (hl2 : s.heap.IsList l2 ys)
    (h : ∀ h', IsZip h' (s.heap.objs.size + 4) (s.heap.objs.size + 2) (s.heap.objs.size + 3) .none → IsPair h' (s.heap.objs.size + 2) (.ref s.heap.objs.size) (.ref (s.heap.objs.size + 1)) → IsPair h' (s.heap.objs.size + 3) .none .none →
      h'.IsTupleIter s.heap.objs.size l1 0 → h'.IsListIter (s.heap.objs.size + 1) l2 0 → (∀ c o, s.heap.get? c = some o → h'.get? c = some o) → Q (.ref (s.heap.objs.size + 4)) { s with heap := h' }) : wpAny (model prog w) A (call (.type "zip") [.ref l1, .ref l2]) Q E s := by
  refine callType_new F.called_zip (by decide) (F.typeCall_zip_2 _ _) (F.newCall_zip_2 _ _) (fun obj => F.args_object_init_3 obj _ _) F.entry_zip_new (zm_meets l1 l2 xs ys) ⟨hl1, hl2, ?_⟩
  have g : ∀ (h0 : Heap) (o : Obj) (n : Nat), o.isFreed = false → h0.objs.size = n → (h0.push o).get? n = some o ∧ (h0.push o).objs.size = n + 1 := fun h0 o n f e => ⟨by subst e; exact Heap.get?_push_size _ f, by rw [Heap.size_push, e]⟩
  obtain ⟨a1, b1⟩ := g s.heap { cls := .type "tuple_iterator", data := .fields #[.ref l1, .int 0 0] } _ rfl rfl
  obtain ⟨a2, b2⟩ := g _ { cls := .type "list_iterator", data := .fields #[.ref l2, .int 0 0] } _ rfl b1
  obtain ⟨a3, b3⟩ := g _ { cls := .type "tuple", data := .seq #[.ref s.heap.objs.size, .ref (s.heap.objs.size + 1)] } _ rfl b2
  obtain ⟨a4, b4⟩ := g _ { cls := .type "tuple", data := .seq #[.none, .none] } _ rfl b3
  obtain ⟨a5, b5⟩ := g _ { cls := .type "zip", data := .fields #[.none, .bool false, .bool false, .ref (s.heap.objs.size + 2), .ref (s.heap.objs.size + 3)] } _ rfl b4
  have up : ∀ {h0 : Heap} {o u : Obj} {c : Addr}, h0.get? c = some u → (h0.push o).get? c = some u := fun e => Heap.get?_push_of_some _ e
  exact ⟨⟨_, a5, rfl⟩, h _ a5 (up (up a3)) (up a4) ⟨_, up (up (up (up a1))), rfl, rfl⟩ ⟨_, up (up (up a2)), rfl, rfl⟩ fun c o x => up (up (up (up (up x))))⟩
end
/-- the tuple at a and the list at b as they stand at each turn, the items in new pairs -/
def ItzM (K : PySem.W.Frag) (a b : Addr) : It :=
  ⟨fun i H => ∃ (xs ys : List V) (x y : V), SqT K H a xs ∧ SqL K H b ys ∧ xs[i]? = some x ∧ ys[i]? = some y,
    fun i H v H' => ∃ T x y, v = .ref T ∧ H T = none ∧ H' = upd H T (.tup [x, y]) ∧ (∀ xs, SqT K H a xs → xs[i]? = some x) ∧ ∀ ys, SqL K H b ys → ys[i]? = some y,
    fun i H => ∃ xs ys : List V, SqT K H a xs ∧ SqL K H b ys ∧ (xs.length ≤ i ∨ ys.length ≤ i)⟩
theorem zm_turn {P : Program} {w : World} {K : PySem.W.Frag} {elts : List Expr} {kk : Nat} {tpos : Pos} {a b z TI TO i1 i2 : Addr} (D : ZipApart z TI TO i1 i2 a b) :
    Turn P w K (.Tuple elts kk tpos) (ItzM K a b) [z, TI, TO, i1, i2] z (fun i h => IsZip h z TI TO .none ∧ IsPair h TI (.ref i1) (.ref i2) ∧ (∃ x y, IsPair h TO x y) ∧ h.IsTupleIter i1 a i ∧ h.IsListIter i2 b i) where
  mem := List.mem_cons_self
  obj := fun i h ⟨hz, hTI, ⟨x, y, hTO⟩, ⟨o1, e1, _, d1⟩, ⟨o2, e2, _, d2⟩⟩ c hc => by
    simp only [List.mem_cons, List.not_mem_nil, or_false] at hc
    rcases hc with rfl | rfl | rfl | rfl | rfl
    · exact ⟨_, hz, nofun⟩
    · exact ⟨_, hTI, nofun⟩
    · exact ⟨_, hTO, nofun⟩
    · exact ⟨o1, e1, fun v q => by rw [d1] at q; cases q⟩
    · exact ⟨o2, e2, fun v q => by rw [d2] at q; cases q⟩
  keep := fun i h h' ⟨hz, hTI, ⟨x, y, hTO⟩, h1, h2⟩ k => ⟨k z (by simp) _ hz, k TI (by simp) _ hTI, ⟨x, y, k TO (by simp) _ hTO⟩, h1.at fun o q => k i1 (by simp) o q, h2.at fun o q => k i2 (by simp) o q⟩
  item := by
    intro X hP hw hK hc i pins s σ H E I hf st hg
    subst hP hw hK
    obtain ⟨hz, hTI, ⟨x0, y0, hTO⟩, h1, h2⟩ := st
    obtain ⟨xs, ys, x, y, qx, qy, ex, ey⟩ := hg
    obtain ⟨its, rv, p, _⟩ := I.tuple qx
    obtain ⟨jts, rw', pl, _⟩ := I.list qy
    obtain ⟨u, hu, ru⟩ := rv.get ex
    obtain ⟨t, ht, rt⟩ := rw'.get ey
    have zl : z < s.heap.objs.size := Heap.lt_size hz
    have zt : s.TypeIs (.ref z) "zip" := ⟨_, hz, rfl⟩
    have m : ZM s.heap z TI TO i1 i2 a b i x0 y0 its.toArray jts.toArray := ⟨hTI, hTO, h1, h2, p, pl.isList⟩
    unfold pyNext
    refine wpAny_bind (wpAny_attempt (wpAny_callSpecial?_slot (name := Str.ofString "__next__") zt F.slot_zip_next (wpAny_call_entry F.slot_zip_next zt F.entry_zip_next (zm_item D hz m (x := u) (y := t) (by simpa using hu) (by simpa using ht) fun g ⟨gz, gTO, g1, g2, gT⟩ gk => wpAny_pure ?_) (F.args_zip_next_1 _))))
    refine ⟨_, rfl, wpAny_letOwnedTupleGo_zip (s := { s with heap := g }) gz fun g' gz' sb => ?_⟩
    have T2 : g'.get? s.heap.objs.size = some { cls := .type "tuple", data := .seq #[u, t] } := (sb.2 _ (Nat.ne_of_gt zl)).trans gT
    have J := I.turnedNew (t' := s.toks) (ch := [z, TI, TO, i1, i2]) (ob := .tup [x, y]) (h' := g') (fun c o hb q => (sb.2 c (fun e => hb (by simp [e]))).trans (gk c o (fun e => hb (by simp [e])) (fun e => hb (by simp [e])) (fun e => hb (by simp [e])) (fun e => hb (by simp [e])) q)) hf (Nat.le_refl _)
      ⟨(show 2 ≤ sizeLine by decide), [u, t], .cons ru (.cons rt .nil), _, T2, rfl, _, rfl⟩
    refine ⟨.ref s.heap.objs.size, _, J, rfl, ⟨_, x, y, rfl, I.hok.fresh (Nat.le_refl _), rfl, fun l hl => by rw [I.tuple_inj hl qx]; exact ex, fun l hl => by rw [I.list_inj hl qy]; exact ey⟩, ⟨gz', (sb.2 _ D.TIz).trans (gk _ _ D.TIz D.TITO D.TIi1 D.TIi2 hTI), ⟨u, t, (sb.2 _ D.TOz).trans gTO⟩, g1.at fun o q => (sb.2 _ D.i1z).trans q, g2.at fun o q => (sb.2 _ D.i2z).trans q⟩, fun c hcm => ?_⟩
    rw [upd_ne fun e => ?_]
    · exact (hf c hcm).1
    have lt : c < s.heap.objs.size := by
      simp only [List.mem_cons, List.not_mem_nil, or_false] at hcm
      rcases hcm with q | q | q | q | q
      · rw [q]; exact zl
      · rw [q]; exact Heap.lt_size hTI
      · rw [q]; exact Heap.lt_size hTO
      · obtain ⟨_, e1, _⟩ := h1; rw [q]; exact Heap.lt_size e1
      · obtain ⟨_, e2, _⟩ := h2; rw [q]; exact Heap.lt_size e2
    exact Nat.lt_irrefl _ (e ▸ lt)
  done := by
    intro X hP hw hK hc i pins s σ H E I hf st hg
    subst hP hw hK
    obtain ⟨hz, hTI, ⟨x0, y0, hTO⟩, h1, h2⟩ := st
    obtain ⟨xs, ys, qx, qy, hend⟩ := hg
    obtain ⟨its, rv, p, _⟩ := I.tuple qx
    obtain ⟨jts, rw', pl, _⟩ := I.list qy
    have l1 := rv.length
    have l2 := rw'.length
    have he : its.toArray[i]? = none ∨ jts.toArray[i]? = none := hend.imp (fun q => by simp; omega) fun q => by simp; omega
    have zt : s.TypeIs (.ref z) "zip" := ⟨_, hz, rfl⟩
    unfold pyNext
    refine wpAny_bind (wpAny_attempt (wpAny_callSpecial?_slot (name := Str.ofString "__next__") zt F.slot_zip_next (wpAny_call_entry F.slot_zip_next zt F.entry_zip_next (zm_end (I.ok.hd hc) D hz ⟨hTI, hTO, h1, h2, p, pl.isList⟩ he fun g e gk ⟨o, ho, co⟩ => ?_) (F.args_zip_next_1 _))))
    exact wpAny_bind (wpAny_isInstance (T := "StopIteration") (b := true) ⟨o, ho, co⟩ isSubtype_stop (wpAny_pure ⟨rfl, I.turnedL (t' := s.toks) (ch := [z, TI, TO, i1, i2]) (fun c o hb q => gk c o (fun e => hb (by simp [e])) (fun e => hb (by simp [e])) (fun e => hb (by simp [e])) (fun e => hb (by simp [e])) q) hf⟩))
  self := fun A i s Q E st h => wpAny_pyIter_zip st.1 h
def iZipM (K : PySem.W.Frag) (ta : TA) : TI := fun σ H R => ta σ H fun vs H1 => ∃ a b xs ys, vs = [.ref a, .ref b] ∧ SqT K H1 a xs ∧ SqL K H1 b ys ∧ R (ItzM K a b) H1
theorem pi_zipM {X : Cx} {K : PySem.W.Frag} {e e2 : Expr} {ta : TA} {p pos tpos : Pos} {elts : List Expr} {kk : Nat} (hg : Gl X "zip") (hm : X.mg "zip" = none) (ha : PA X [e, e2] ta) (hK : X.K = K := by rfl)
    (hs : starEach [e, e2] X.env = (false, eval e X.env) :: starEach [e2] X.env := by rfl) (hpl : (backTo pos (starEach [e2] X.env)).any (·.1) = false := by rfl) : PI X (.Tuple elts kk tpos) (.Call (.Name "zip" p) [e, e2] [] pos) (iZipM K ta) := by
  subst hK
  refine ⟨fun pins s σ H R I h => Call_ (ld_blt I hg hm PyProof.Rows.boot_zip (PyProof.Rows.callWith_type1 (thn (ha.run pos pins s σ H _ I h) fun us s1 ⟨vs, H1, I1, r1, a, b, xs, ys, ex, hqx, hqy, q⟩ => ?_) hs hpl))⟩
  subst ex
  obtain ⟨u1, u2, rfl, ru1, ru2⟩ := vals2 r1
  cases (show u1 = Value.ref a from ru1)
  cases (show u2 = Value.ref b from ru2)
  obtain ⟨its, rv, p1, _⟩ := I1.tuple hqx
  obtain ⟨jts, rv2, p2, _⟩ := I1.list hqy
  obtain ⟨o1, ho1, _⟩ := id p1
  refine zm_call (show s1.heap.IsTuple a its.toArray from p1) p2.isList fun g gz gTI gTO g1 g2 gk => wpAny_pyIter_zip gz ?_
  refine ⟨s1.heap.objs.size + 4, [s1.heap.objs.size + 4, s1.heap.objs.size + 2, s1.heap.objs.size + 3, s1.heap.objs.size, s1.heap.objs.size + 1], _, _, H1, rfl, I1.kept (t' := s1.toks) gk, zm_turn (PySem.W.ktu_apart s1.heap.objs.size a b (Heap.lt_size ho1) p2.lt), ⟨gz, gTI, ⟨_, _, gTO⟩, g1, g2⟩, fun c hc => ?_, q⟩
  have le : s1.heap.objs.size ≤ c := by
    simp only [List.mem_cons, List.not_mem_nil, or_false] at hc
    rcases hc with q | q | q | q | q <;> rw [q] <;> first | exact Nat.le_add_right _ _ | exact Nat.le_refl _
  exact I1.fpOk le (I1.hok.fresh le)
/-! ### .. walked -/
section
variable {K : PySem.W.Frag} {pv : V × Option Addr} {E : XW} {F O : Addr → Prop} {H H' H1 H3 : Hp} {φ φ' φ1 : List Addr} {S S' S1 : AS} {M : Addr → Prop} {η : Sls} {σ : L2.St}
def pairs (xs ys : List PV) : List PV := (xs.zip ys).map fun p => .tup [p.1, p.2]
def tupItems : PV → Option (List PV)
  | .tup xs => some xs
  | .ktu xs => some xs
  | _ => none
def zipI (f : FA) : FI := fun η S => (f η S).bind fun ps S => match ps with
  | [p, .lst ys] => match tupItems p with
    | some xs => .ok (pairs xs ys) S
    | none => .stuck
  | _ => .stuck
theorem zip_at {α β : Type} : ∀ {xs : List α} {ys : List β} {i : Nat} {p : α × β}, (xs.zip ys)[i]? = some p → xs[i]? = some p.1 ∧ ys[i]? = some p.2
  | x :: xs, y :: ys, 0, p, h => by simp at h; subst h; exact ⟨rfl, rfl⟩
  | x :: xs, y :: ys, i + 1, p, h => by simpa using zip_at (xs := xs) (ys := ys) (i := i) (p := p) (by simpa using h)
  | [], _, _, _, h => by simp at h
  | _ :: _, [], _, _, h => by simp at h
theorem walks_zip {a b : Addr} {ps qs : List PV} {vs us : List V} (r : RVs K H φ M ps vs) (r2 : RVs K H φ M qs us) (h1 : ∀ H', (∀ a, H a ≠ none → ¬ M a → H' a = H a) → SqT K H' a vs) (h2 : ∀ H', (∀ a, H a ≠ none → ¬ M a → H' a = H a) → SqL K H' b us) : Walks K (ItzM K a b) (pairs ps qs) H φ M := fun H' φ' M' k g hm => by
  have k' : ∀ a, H a ≠ none → ¬ M a → H' a = H a := fun a x m => (k a x m).1
  have q1 := h1 H' k'
  have q2 := h2 H' k'
  refine ⟨fun i p e => ?_, vs, us, q1, q2, ?_⟩
  · unfold pairs at e
    rw [List.getElem?_map] at e
    cases ez : (ps.zip qs)[i]? with
    | none => rw [ez] at e; cases e
    | some pr =>
      rw [ez] at e
      cases e
      obtain ⟨z1, z2⟩ := zip_at ez
      obtain ⟨v, ev, rv⟩ := r.get z1
      obtain ⟨u, eu, ru⟩ := r2.get z2
      refine ⟨⟨vs, us, v, u, q1, q2, ev, eu⟩, fun x H3 ⟨T, x1, y1, ex, hT, e3, f1, f2⟩ => ?_⟩
      have w1 := f1 vs q1
      have w2 := f2 us q2
      rw [ev] at w1
      rw [eu] at w2
      cases w1
      cases w2
      subst ex e3
      have up : ∀ a, H' a ≠ none → upd H' T (.tup [v, u]) a = H' a := fun a h => upd_ne fun z => h (by rw [z]; exact hT)
      have kk : ∀ a, H a ≠ none → ¬ M a → upd H' T (.tup [v, u]) a = H a ∧ ¬ M' a := fun a h m => by
        obtain ⟨z1, z2⟩ := k a h m
        exact ⟨(up a (by rw [z1]; exact h)).trans z1, z2⟩
      exact ⟨up, .tup ⟨upd_same, fun z => hm T z hT⟩ (.cons (rv.mono kk g) (.cons (ru.mono kk g) .nil))⟩
  · unfold pairs
    rw [List.length_map, List.length_zip, r.len, r2.len]
    omega
theorem si_zip {t : TA} {f : FA} (s : SimA K pv E t f) : SimI K pv E (iZipM K t) (zipI f) := fun H φ S F O η σ R w hO re h => by
  refine s H φ S F O η σ _ w hO re (h.bind.imp fun ps φ1 S1 H1 e1 w1 h1 vs rs => ?_)
  split at h1
  · split at h1
    · rename_i p ys xs e
      cases rs with
      | cons r rs =>
        cases rs with
        | cons r2 rs =>
          cases rs
          cases r2 with
          | lst hl rl =>
            unfold tupItems at e
            split at e
            · cases e
              cases r with
              | tup ht rt => exact ⟨_, _, _, _, rfl, ht.sq, hl.sq, h1.ok w1 _ (walks_zip rt rl (fun H' k => tpI_at ht k) fun H' k => lsI_at hl k)⟩
            · cases e
              cases r with
              | ktu ht rt => exact ⟨_, _, _, _, rfl, ht.sq, hl.sq, h1.ok w1 _ (walks_zip rt rl (fun H' k => ktI_at ht k) fun H' k => lsI_at hl k)⟩
            · cases e
    · exact h1.elim
  · exact h1.elim
end
end Fu

end
section
set_option Elab.async false
set_option linter.all false
set_option maxRecDepth 100000
set_option maxHeartbeats 4000000
namespace Fu
open PySem PySem.Spec PyProof.Rows L2
open He (ga)
section
variable {K : PySem.W.Frag} {pv : V × Option Addr} {E : XW} {F O : Addr → Prop} {H H' H1 H3 : Hp} {φ φ' φ1 : List Addr} {S S' S1 : AS} {M M' : Addr → Prop} {η : Sls} {σ : L2.St}
/-- x[i] = e, x a slot's own list -/
def ownSet (i : Nat) (fi fe : FE) : FS := fun η S => lift (fe η S) η fun p S => match η[i]? with
  | some (.own xs) => lift (fi η S) η fun q S => match q with
    | .int k => match ixN xs.length k with
      | some j => .nx (η.set i (.own (xs.set j p))) S
      | none => .stuck
    | _ => .stuck
  | _ => .stuck
theorem ss_ownSet {i : Nat} {te ti : TE} {fe fi : FE} (a : SimE K pv E te fe) (b : SimB K pv E ti fi) : SimS K pv E (tAsg te (gSub (tVar i) ti rSetL)) (ownSet i fi fe) := fun H φ S F η σ D w h => by
  refine a H φ S _ _ η σ _ w.wf (fun _ z => .inr z) w.re ((GoS.lift w h).imp fun p φ1 S1 H1 e1 w1 h1 v rv => ?_)
  obtain ⟨h1, ws⟩ := h1
  split at h1
  · rename_i xs e
    obtain ⟨ad, us, q1, q2, q3, _⟩ := ws.re.own i xs e
    refine ⟨_, q1, ?_⟩
    refine b H1 φ1 S1 _ _ η σ _ ws.wf (fun _ z => .inr z) ws.re ((GoS.lift ws h1).imp fun q φ2 S2 H2 e2 w2 h2 y ry => ?_)
    obtain ⟨h2, ws2⟩ := h2
    split at h2
    · split at h2
      · rename_i k j ej
        obtain rfl := ry.int
        obtain ⟨ad', us', f1, f2, f3, _⟩ := ws2.re.own i xs e
        rw [q1] at f1
        cases f1
        obtain ⟨ws3, ev3⟩ := ws2.own (ys := xs.set j p) (ws := us'.set j v) e q1 f2 (f3.set (e2.rv rv) j)
        exact ⟨ad, us', _, j, rfl, rfl, f2, by rw [f3.len]; exact ej, h2 φ2 _ σ ev3 ws3⟩
      · exact h2.elim
    · exact h2.elim
  · exact (show False from h1).elim
/-! ### what a def leaves behind, forgotten -/
mutual
def lt (n : Nat) : PV → Bool
  | .ref m => decide (m < n)
  | .tup xs => lts n xs
  | .ktu xs => lts n xs
  | .lst xs => lts n xs
  | .kls xs => lts n xs
  | _ => true
def lts (n : Nat) : List PV → Bool
  | [] => true
  | p :: ps => lt n p && lts n ps
end
mutual
theorem RV.lt {p : PV} {v : V} (r : RV K H φ M p v) : Fu.lt φ.length p = true := by
  cases r with
  | ref h => unfold Fu.lt; exact decide_eq_true (List.getElem?_eq_some_iff.mp h).1
  | tup _ rs => unfold Fu.lt; exact rs.lts
  | ktu _ rs => unfold Fu.lt; exact rs.lts
  | lst _ rs => unfold Fu.lt; exact rs.lts
  | kls _ rs => unfold Fu.lt; exact rs.lts
  | _ => rfl
theorem RVs.lts {ps : List PV} {vs : List V} (r : RVs K H φ M ps vs) : Fu.lts φ.length ps = true := by
  cases r with
  | nil => rfl
  | cons r rs => unfold Fu.lts; rw [r.lt, rs.lts] <;> rfl
end
mutual
theorem RV.cut {n : Nat} {p : PV} {v : V} (hm : ∀ a, M' a → M a) (r : RV K H φ M p v) (h : Fu.lt n p = true) : RV K H (φ.take n) M' p v := by
  cases r with
  | non => exact .non
  | bl => exact .bl
  | int => exact .int
  | str => exact .str
  | ty => exact .ty
  | con => exact .con
  | ref e => unfold Fu.lt at h; exact .ref (by rw [List.getElem?_take, if_pos (of_decide_eq_true h)]; exact e)
  | tup e rs => unfold Fu.lt at h; exact .tup ⟨e.1, fun z => e.2 (hm _ z)⟩ (rs.cut' hm h)
  | ktu e rs => unfold Fu.lt at h; exact .ktu (e.imp (fun z => ⟨z.1, fun y => z.2 (hm _ y)⟩) id) (rs.cut' hm h)
  | lst e rs => unfold Fu.lt at h; exact .lst ⟨e.1, fun z => e.2 (hm _ z)⟩ (rs.cut' hm h)
  | kls e rs => unfold Fu.lt at h; exact .kls (e.imp (fun z => ⟨z.1, fun y => z.2 (hm _ y)⟩) id) (rs.cut' hm h)
theorem RVs.cut' {n : Nat} {ps : List PV} {vs : List V} (hm : ∀ a, M' a → M a) (r : RVs K H φ M ps vs) (h : Fu.lts n ps = true) : RVs K H (φ.take n) M' ps vs := by
  cases r with
  | nil => exact .nil
  | cons r rs =>
    unfold Fu.lts at h
    rw [Bool.and_eq_true] at h
    exact .cons (r.cut hm h.1) (rs.cut' hm h.2)
end
def ltO (n : Nat) : AO → Bool
  | .lst xs => lts n xs
  | .dic kvs => kvs.all fun kv => lt n kv.2
  | .dct kvs => kvs.all fun kv => lt n kv.2
  | .ins _ fs => fs.all fun f => lt n f.2
theorem RFs.cut {n : Nat} (hm : ∀ a, M' a → M a) : ∀ {p q}, RFs K H φ M p q → (p.all fun f => Fu.lt n f.2) = true → RFs K H (φ.take n) M' p q
  | _, _, .nil, _ => .nil
  | _, _, .cons r rs, h => by
    rw [List.all_cons, Bool.and_eq_true] at h
    exact .cons (r.cut hm h.1) (rs.cut hm h.2)
theorem RKs.cut {n : Nat} (hm : ∀ a, M' a → M a) : ∀ {p q}, RKs K H φ M p q → (p.all fun f => Fu.lt n f.2) = true → RKs K H (φ.take n) M' p q
  | _, _, .nil, _ => .nil
  | _, _, .cons e r rs, h => by
    rw [List.all_cons, Bool.and_eq_true] at h
    exact .cons e (r.cut hm h.1) (rs.cut hm h.2)
theorem RTs.cut {n : Nat} (hm : ∀ a, M' a → M a) : ∀ {p q}, RTs K H φ M p q → (p.all fun f => Fu.lt n f.2) = true → RTs K H (φ.take n) M' p q
  | _, _, .nil, _ => .nil
  | _, _, .cons e r rs, h => by
    rw [List.all_cons, Bool.and_eq_true] at h
    exact .cons e (r.cut hm h.1) (rs.cut hm h.2)
theorem RO.cut {n : Nat} (hm : ∀ a, M' a → M a) {o : AO} {ho : HO} (r : RO K H φ M o ho) (h : ltO n o = true) : RO K H (φ.take n) M' o ho := by
  cases r with
  | lst r => exact .lst (r.cut' hm h)
  | dK r => exact .dK (r.cut hm h)
  | dT r => exact .dT (r.cut hm h)
  | ins r => exact .ins (r.cut hm h)
theorem RFs.lts : ∀ {p q}, RFs K H φ M p q → (p.all fun f => Fu.lt φ.length f.2) = true
  | _, _, .nil => rfl
  | _, _, .cons r rs => by rw [List.all_cons, r.lt, rs.lts] <;> rfl
theorem RKs.lts : ∀ {p q}, RKs K H φ M p q → (p.all fun f => Fu.lt φ.length f.2) = true
  | _, _, .nil => rfl
  | _, _, .cons _ r rs => by rw [List.all_cons, r.lt, rs.lts] <;> rfl
theorem RTs.lts : ∀ {p q}, RTs K H φ M p q → (p.all fun f => Fu.lt φ.length f.2) = true
  | _, _, .nil => rfl
  | _, _, .cons _ r rs => by rw [List.all_cons, r.lt, rs.lts] <;> rfl
theorem RO.lt {o : AO} {ho : HO} (r : RO K H φ M o ho) : ltO φ.length o = true := by
  cases r with
  | lst r => exact r.lts
  | dK r => exact r.lts
  | dT r => exact r.lts
  | ins r => exact r.lts
/-- what was there ahead of a call names nothing that came later -/
def Cuts (S S' : AS) (p : PV) : Prop := lt S.length p = true ∧ S.length ≤ S'.length ∧ ∀ m, m < S.length → S'[m]? = S[m]? ∨ ∃ o, S'[m]? = some (some o) ∧ ltO S.length o = true
open Classical in
noncomputable def trim (f : Fn) : Fn := fun ps S => match f ps S with
  | .ok p S' => if Cuts S S' p then .ok p (S'.take S.length) else .ok p S'
  | r => r
theorem trim_ok {f : Fn} {ps : List PV} {S S' : AS} {p : PV} (e : f ps S = .ok p S') (c : Cuts S S' p) : trim f ps S = .ok p (S'.take S.length) := by
  unfold trim
  rw [e]
  exact if_pos c
theorem trim_sp {n : Nat} {f : Fn} {vs : List V} {Q : VK} {X : XK} (h : spF K n (trim f) vs H Q X) : spF K n f vs H Q X := by
  obtain ⟨φ, S, F, ps, e, w, rs, g⟩ := h
  refine ⟨φ, S, F, ps, e, w, rs, ?_⟩
  unfold trim at g
  cases q : f ps S with
  | exc c fs S' => rw [q] at g; exact g
  | stuck => rw [q] at g; exact g
  | ok p S' =>
    rw [q] at g
    dsimp only at g
    split at g
    · rename_i c
      obtain ⟨c1, c2, c3⟩ := c
      intro φ1 H1 ev w1 v rv
      have hS : ∀ (m : Nat) (o : AO), (S'.take S.length)[m]? = some (some o) → m < S.length ∧ S'[m]? = some (some o) := fun m o e => by
        rw [List.getElem?_take] at e
        split at e
        · exact ⟨by assumption, e⟩
        · cases e
      have hφ : ∀ (m : Nat) a, (φ1.take S.length)[m]? = some a → φ1[m]? = some a := fun m a e => by
        rw [List.getElem?_take] at e
        split at e
        · exact e
        · cases e
      have hl : ∀ a, Lv (φ1.take S.length) (S'.take S.length) a → Lv φ1 S' a := fun a ⟨m, o, e1, e2⟩ => ⟨m, o, (hS m o e1).2, hφ m a e2⟩
      have hm : ∀ a, uni (Lv (φ1.take S.length) (S'.take S.length)) F a → uni (Lv φ1 S') F a := fun a z => z.imp (hl a) id
      refine g (φ1.take S.length) H1 ⟨ev.stay, fun a h m => ?_, fun m a z => ?_⟩ ⟨?_, fun m o z => ?_, fun m l a o u z1 z2 z3 z4 => ?_, fun a z => ?_⟩ v (rv.cut hm c1)
      · obtain ⟨q1, q2⟩ := ev.keep a h m
        exact ⟨q1, fun z => q2 (hl a z)⟩
      · have lt : m < S.length := by rw [← w.len]; exact (List.getElem?_eq_some_iff.mp z).1
        rw [List.getElem?_take, if_pos lt]
        exact ev.pre m a z
      · rw [List.length_take, List.length_take, w1.len]
      · obtain ⟨lt, z⟩ := hS m o z
        obtain ⟨a, ho, q1, q2, q3⟩ := w1.live m o z
        refine ⟨a, ho, by rw [List.getElem?_take, if_pos lt]; exact q1, q2, q3.cut hm ?_⟩
        rcases c3 m lt with q | ⟨o', q, ql⟩
        · rw [z] at q
          obtain ⟨_, _, _, _, r⟩ := w.live m o q.symm
          rw [← w.len]
          exact r.lt
        · rw [z] at q
          cases q
          exact ql
      · exact w1.inj m l a o u (hS m o z1).2 (hS l u z2).2 (hφ m a z3) (hφ l a z4)
      · obtain ⟨q1, q2⟩ := w1.away a z
        exact ⟨q1, fun z => q2 (hl a z)⟩
    · exact g
/-! ### the law's own def -/
theorem rvs_ints : ∀ ns : List Int, RVs K H φ M (ns.map .int) (ns.map V.int)
  | [] => .nil
  | _ :: ns => .cons .int (rvs_ints ns)
theorem no_lv {a : Addr} : ¬ uni (Lv [] []) (fun _ => False) a := fun z => z.elim (fun ⟨n, o, e, _⟩ => by cases e) id
theorem law_sp {fn : Fn} (hf : ∀ (ns : List Int) (p : PV), ns.length ≤ 63 → items p [] = some (ns.map .int) → ∃ S', fn [p] [] = .ok (.bl true) S') {vs : List V} {Q : VK} {a : Addr} {ns : List Int} (e : vs = [V.ref a]) (hs : SqL K H a (ns.map V.int)) (hn : ns.length ≤ 63) (q : ∀ H', Q (.bl true) H') :
    spF K 1 fn vs H Q (fun _ _ _ => False) := by
  subst e
  have w : WF K H [] [] (fun _ => False) := ⟨rfl, fun n o e => (by cases e), fun n m a o u e => (by cases e), fun _ z => z.elim⟩
  obtain ⟨p, ep, rp⟩ : ∃ p, items p [] = some (ns.map .int) ∧ RV K H [] (uni (Lv [] []) (fun _ => False)) p (.ref a) := by
    rcases hs with (hs | ⟨o, hs⟩) | hs
    · exact ⟨.lst (ns.map .int), rfl, .lst ⟨hs, no_lv⟩ (rvs_ints ns)⟩
    · exact ⟨.kls (ns.map .int), rfl, .kls (.inl ⟨⟨o, hs⟩, no_lv⟩) (rvs_ints ns)⟩
    · exact ⟨.kls (ns.map .int), rfl, .kls (.inr hs) (rvs_ints ns)⟩
  obtain ⟨S', e⟩ := hf ns p hn ep
  refine ⟨[], [], fun _ => False, [p], rfl, w, .cons rp .nil, ?_⟩
  rw [e]
  intro φ' H' _ _ v rv
  cases rv
  exact q H'
theorem law_of {P : Program} {w : World} {mg : Str → Option Value} {base : Heap} {k : Nat} {f : Addr} {fd : FuncData} {fn : Fn} (G : FnOk P w K mg base (L2N.CX P w) k f fd ["_law_script"] (spF K 1 fn))
    (hf : ∀ (ns : List Int) (p : PV), ns.length ≤ 63 → items p [] = some (ns.map .int) → ∃ S', fn [p] [] = .ok (.bl true) S') :
    FnOk P w K mg base CX0 k f fd ["_law_script"] (fun vs H Q _ => ∃ (a : Addr) (ns : List Int), vs = [.ref a] ∧ SqL K H a (ns.map V.int) ∧ ns.length ≤ 63 ∧ ∀ H', Q (.bl true) H') where
  len := fun vs H Q E ⟨a, ns, e, _⟩ => by rw [e]; rfl
  run := fun A outer s H args us vs Q E hr e0 hb hv ⟨a, ns, e, hs, hn, q⟩ => by
    refine codeAny_mono (G.run A outer s H args us vs Q (fun _ _ _ => False) hr e0 hb hv (law_sp hf e hs hn q)) fun r s' hq => ?_
    cases r with
    | ok fl => cases fl <;> exact hq
    | error er =>
      obtain ⟨_, _, _, _, _, _, _, _, _, _, _, z⟩ := (show L2N.CX P w outer H s (fun _ _ _ => False) er s' from hq)
      obtain ⟨_, z⟩ := z
      first | exact z.elim | exact z.2.elim
end
end Fu

end
section
set_option Elab.async false
set_option linter.all false
set_option maxRecDepth 100000
set_option maxHeartbeats 4000000
/-! The functions evaluated by simp. -/
namespace Fu
open PySem PySem.Spec PyProof.Rows L2
/-- an opaque guard: the kernel must not count up to it -/
structure RngP (j : Int) : Prop where
  lo : -(2 ^ 62) ≤ j
  hi : j < 2 ^ 62
noncomputable instance {j : Int} : Decidable (RngP j) := Classical.propDecidable _
@[simp] theorem rng_ok {j : Int} (h : -1000000000 ≤ j ∧ j ≤ 1000000000) : RngP j := ⟨by omega, by omega⟩
section
variable {η η' : Sls} {S S' : AS} {i j n : Nat} {p q : PV} {α : Type}
@[simp] theorem pureR_ok {a : α} : pureR (.ok a S) = .ok a S := rfl
@[simp] theorem pureR_stuck : pureR (.stuck : R α) = .stuck := rfl
@[simp] theorem pureR_exc {c : Str} {fs : List (Str × PV)} : pureR (.exc c fs S : R α) = .stuck := rfl
@[simp] theorem ofO_none : (ofO none S : R α) = .stuck := rfl
@[simp] theorem e_var : varF i η S = (match η[i]? with | some (.val p) => .ok p S | _ => .stuck) := rfl
@[simp] theorem e_bvar : bvarF i η S = (match η[i]? with | some (.val p) => .ok p S | some (.own xs) => .ok (.lst xs) S | _ => .stuck) := rfl
@[simp] theorem e_c : cF p η S = .ok p S := rfl
@[simp] theorem e_op {g : PV → PV → AS → R PV} {a b : FE} : opF g a b η S = (a η S).bind fun p S => (b η S).bind fun q S => pureR (g p q S) := rfl
@[simp] theorem e_un {g : PV → AS → R PV} {a : FE} : unF g a η S = (a η S).bind fun p S => pureR (g p S) := rfl
@[simp] theorem e_cb {g : List PV → AS → R PV} {a : FA} : callB g a η S = (a η S).bind fun p S => pureR (g p S) := rfl
@[simp] theorem e_toB {b : Bool} : toB (.bl b) S = .ok b S := rfl
@[simp] theorem e_tst {f : FE} : tstF f η S = (f η S).bind toB := rfl
@[simp] theorem e_andT {a b : FT} : andT a b η S = (a η S).bind fun c S => if c = true then b η S else .ok false S := rfl
@[simp] theorem e_orT {a b : FT} : orT a b η S = (a η S).bind fun c S => if c = true then .ok true S else b η S := rfl
@[simp] theorem e_notT {a : FT} : notT a η S = (a η S).bind fun c S => .ok (!c) S := rfl
@[simp] theorem e_and {a b : FE} : andF a b η S = (a η S).bind fun p S => (toB p S).bind fun c S => if c = true then b η S else .ok (.bl false) S := rfl
@[simp] theorem e_or {a b : FE} : orF a b η S = (a η S).bind fun p S => (toB p S).bind fun c S => if c = true then .ok (.bl true) S else b η S := rfl
@[simp] theorem e_not {a : FE} : notF a η S = (a η S).bind fun p S => (toB p S).bind fun c S => .ok (.bl (!c)) S := rfl
@[simp] theorem e_if {c : FT} {a b : FE} : ifF c a b η S = (c η S).bind fun d S => if d = true then a η S else b η S := rfl
@[simp] theorem e_nilA : nilA η S = .ok [] S := rfl
@[simp] theorem e_consA {a : FE} {r : FA} : consA a r η S = (a η S).bind fun p S => (r η S).bind fun ps S => .ok (p :: ps) S := rfl
@[simp] theorem e_tup {a : FA} : tupF a η S = (a η S).bind fun ps S => if ps.length ≤ 1000000 then .ok (.tup ps) S else .stuck := rfl
@[simp] theorem e_lstN {a : FA} : lstN a η S = (a η S).bind fun ps S => if ps.length ≤ 1000000 then .ok ps S else .stuck := rfl
@[simp] theorem e_valN {f : FN} : valN f η S = (f η S).bind fun xs S => .ok (.lst xs) S := rfl
@[simp] theorem e_liveF {f : FN} : liveF f η S = (match f η S with | .ok xs S' => .ok (.ref S'.length) (S' ++ [some (.lst xs)]) | .exc c fs S' => .exc c fs S' | .stuck => .stuck) := rfl
@[simp] theorem e_addN {f g : FE} : addN f g η S = (f η S).bind fun p S => (g η S).bind fun q S => match p, q with | .lst xs, .lst ys => if xs.length + ys.length ≤ 1000000 then .ok (xs ++ ys) S else .stuck | _, _ => .stuck := rfl
@[simp] theorem e_listN {f : FA} : listN f η S = (f η S).bind fun ps S => match ps with | [p] => ofO (items p S) S | _ => .stuck := rfl
@[simp] theorem e_compN {fi : FI} {vs : List Nat} {g : FGx} {t : FT} {e : FE} : compN fi vs g t e η S = (fi η S).bind fun ps S => compL g t e ps [] (wipeS η vs) S := rfl
@[simp] theorem e_noneO : noneO η S = .ok none S := rfl
@[simp] theorem e_someO {a : FE} : someO a η S = (a η S).bind fun p S => match p with | .int i => .ok (some i) S | _ => .stuck := rfl
@[simp] theorem e_sl {g : PV → Option Int → Option Int → AS → R PV} {a : FE} {l h : FO} : slF g a l h η S = (a η S).bind fun p S => (l η S).bind fun l S => (h η S).bind fun u S => pureR (g p l u S) := rfl
@[simp] theorem e_callN {f : Fn} {a : FA} : callN n f a η S = (a η S).bind fun ps S => if ps.length = n then f ps S else .stuck := rfl
@[simp] theorem e_fld {c f : Str} {a : FE} : fldF c f a η S = (a η S).bind fun p S => fldG c f p S := rfl
@[simp] theorem e_seq {f g : FS} : seqS f g η S = (match f η S with | .nx η S => g η S | r => r) := rfl
@[simp] theorem e_next : nextS η S = .nx η S := rfl
@[simp] theorem e_asg {f : FE} {g : FG} : asgS f g η S = lift (f η S) η fun p S => onlyNx (g p η S) fun η S => .nx η S := rfl
@[simp] theorem e_ifS {c : FT} {f g : FS} : ifS c f g η S = lift (c η S) η fun b S => if b = true then f η S else g η S := rfl
@[simp] theorem e_ret {f : FE} : retS f η S = lift (f η S) η fun p S => .rt p S := rfl
@[simp] theorem e_retN : retN η S = .rt .non S := rfl
@[simp] theorem e_expr {f : FE} : exprS f η S = lift (f η S) η fun _ S => .nx η S := rfl
@[simp] theorem e_forS {fi : FI} {g : FG} {b : FS} : forS fi g b η S = lift (fi η S) η fun ps S => forL g b ps η S := rfl
@[simp] theorem e_nameG : nameG i p η S = .nx (η.set i (.val p)) S := rfl
@[simp] theorem e_nilG : nilG [] η S = .nx η S := rfl
@[simp] theorem e_consG {g : FG} {r : List PV → Sls → AS → RF} {ps : List PV} : consG g r (p :: ps) η S = onlyNx (g p η S) fun η S => r ps η S := rfl
@[simp] theorem e_tupG {g : List PV → Sls → AS → RF} {ps : List PV} : tupG n g (.tup ps) η S = if ps.length = n then g ps η S else .stuck := rfl
@[simp] theorem e_ktuG {g : List PV → Sls → AS → RF} {ps : List PV} : tupG n g (.ktu ps) η S = if ps.length = n then g ps η S else .stuck := rfl
@[simp] theorem e_ownS {f : FN} : ownS i f η S = lift (f η S) η fun xs S => .nx (η.set i (.own xs)) S := rfl
@[simp] theorem e_ownApp {f : FE} : ownApp i f η S = (match η[i]? with | some (.own xs) => lift (f η S) η fun p S => if xs.length < 1000000 then .nx (η.set i (.own (xs ++ [p]))) S else .stuck | _ => .stuck) := rfl
@[simp] theorem e_ownSet {fi fe : FE} : ownSet i fi fe η S = lift (fe η S) η fun p S => (match η[i]? with | some (.own xs) => (lift (fi η S) η fun q S => (match q with | .int k => (match ixN xs.length k with | some j => .nx (η.set i (.own (xs.set j p))) S | none => .stuck) | _ => .stuck)) | _ => .stuck) := rfl
@[simp] theorem e_frzS {f : FS} : frzS i f η S = (match η[i]? with | some (.own xs) => f (η.set i (.val (.lst xs))) S | _ => f η S) := rfl
@[simp] theorem e_anyI {f : FE} : anyI f η S = (f η S).bind fun p S => ofO (witems p) S := rfl
@[simp] theorem e_range1 {f : FA} : range1I f η S = (f η S).bind fun ps S => match ps with | [.int j] => if RngP j then .ok (rangeL 0 j.toNat) S else .stuck | _ => .stuck := by
  unfold range1I
  congr 1
  funext ps S
  rcases ps with _ | ⟨p, _ | ⟨q, r⟩⟩
  · rfl
  · cases p <;> try rfl
    rename_i j
    dsimp only
    by_cases h : -(2 ^ 62) ≤ j ∧ j < 2 ^ 62
    · rw [if_pos h, if_pos ⟨h.1, h.2⟩]
    · rw [if_neg h, if_neg (fun z => h ⟨z.lo, z.hi⟩)]
  · cases p <;> rfl
@[simp] theorem e_zipI {f : FA} : zipI f η S = (f η S).bind fun ps S => match ps with | [p, .lst ys] => (match tupItems p with | some xs => .ok (pairs xs ys) S | none => .stuck) | _ => .stuck := rfl
@[simp] theorem e_lm {g : PV → List PV → AS → R PV} {o : FE} {a : FA} : lmF g o a η S = (o η S).bind fun p S => if isLst p S = true then (a η S).bind fun ps S => pureR (g p ps S) else .stuck := rfl
@[simp] theorem e_nameX : nameX i p η = some (η.set i (.val p)) := rfl
@[simp] theorem e_yes : yesT η S = .ok true S := rfl
@[simp] theorem e_dnewT : dnewT η S = .ok (.ref S.length) (S ++ [some (.dct [])]) := rfl
@[simp] theorem e_setd {o a b : FE} : setdF o a b η S = (o η S).bind fun p S => if isDct p S = true then (a η S).bind fun k S => (b η S).bind fun d S => setdG p k d S else .stuck := rfl
@[simp] theorem e_getd {o a b : FE} : getdF o a b η S = (o η S).bind fun p S => if isDct p S = true then (a η S).bind fun k S => (b η S).bind fun d S => getdG p k d S else .stuck := rfl
@[simp] theorem e_breakS : breakS η S = .bk η S := rfl
@[simp] theorem e_contS : contS η S = .ct η S := rfl
@[simp] theorem e_stuckS : stuckS η S = .stuck := rfl
-- by values
@[simp] theorem g_addI {a b : Int} : addG (.int a) (.int b) S = .ok (.int (a + b)) S := rfl
@[simp] theorem g_addS {a b : Str} : addG (.str a) (.str b) S = if a.length + b.length ≤ 1000000 then .ok (.str (a ++ b)) S else .stuck := rfl
@[simp] theorem g_addT {a b : List PV} : addG (.tup a) (.tup b) S = if a.length + b.length ≤ 1000000 then .ok (.tup (a ++ b)) S else .stuck := rfl
@[simp] theorem g_addL {a b : List PV} : addG (.lst a) (.lst b) S = if a.length + b.length ≤ 1000000 then .ok (.lst (a ++ b)) S else .stuck := rfl
@[simp] theorem g_int {C : Int → Int → Bool} {g : Int → Int → PV} {a b : Int} : intG C g (.int a) (.int b) S = if C a b = true then .ok (g a b) S else .stuck := rfl
@[simp] theorem g_int0 {g : Int → Int → PV} {a b : Int} : int0G g (.int a) (.int b) S = .ok (g a b) S := rfl
@[simp] theorem g_eqI {g : Bool → Bool} {a b : Int} : eqG g (.int a) (.int b) S = .ok (.bl (g (decide (a = b)))) S := rfl
@[simp] theorem g_eqS {g : Bool → Bool} {a b : Str} : eqG g (.str a) (.str b) S = .ok (.bl (g (decide (a = b)))) S := rfl
@[simp] theorem g_eqB {g : Bool → Bool} {a b : Bool} : eqG g (.bl a) (.bl b) S = .ok (.bl (g (decide (a = b)))) S := rfl
@[simp] theorem g_isN {g : Bool → Bool} : isG g p .non S = .ok (.bl (g (isNon p))) S := rfl
@[simp] theorem g_isB {g : Bool → Bool} {b : Bool} : isG g p (.bl b) S = .ok (.bl (g (isBl b p))) S := rfl
@[simp] theorem g_notN : notNG p .non S = .ok (.bl (!isNon p)) S := rfl
@[simp] theorem g_ixL {xs : List PV} {k : Int} : ixG (.lst xs) (.int k) S = ofO (atI xs k) S := rfl
@[simp] theorem g_ixT {xs : List PV} {k : Int} : ixG (.tup xs) (.int k) S = ofO (atI xs k) S := rfl
@[simp] theorem g_ixK {xs : List PV} {k : Int} : ixG (.ktu xs) (.int k) S = ofO (atI xs k) S := rfl
@[simp] theorem g_ixR {k : Int} : ixG (.ref n) (.int k) S = (match S[n]? with | some (some (.lst xs)) => ofO (atI xs k) S | _ => .stuck) := rfl
@[simp] theorem g_lenL {xs : List PV} : lenG [.lst xs] S = .ok (.int xs.length) S := rfl
@[simp] theorem g_lenT {xs : List PV} : lenG [.tup xs] S = .ok (.int xs.length) S := rfl
@[simp] theorem g_lenK {xs : List PV} : lenG [.ktu xs] S = .ok (.int xs.length) S := rfl
@[simp] theorem g_lenS {z : Str} : lenG [.str z] S = if z.length ≤ 1000000 then .ok (.int z.length) S else .stuck := rfl
@[simp] theorem g_abs {a : Int} : absG [.int a] S = .ok (.int (if a < 0 then -a else a)) S := rfl
@[simp] theorem g_intI {a : Int} : intC [.int a] S = .ok (.int a) S := rfl
@[simp] theorem g_intB {b : Bool} : intC [.bl b] S = .ok (.int (if b then 1 else 0)) S := rfl
theorem at_nat {α : Type} (xs : List α) (k : Nat) : atI xs (k : Int) = xs[k]? := by
  unfold atI ixN
  rw [if_pos (Int.natCast_nonneg k)]
  split
  · rfl
  · rename_i h
    rw [List.getElem?_eq_none (by omega)]
    rfl
@[simp] theorem at_0 {α : Type} (xs : List α) : atI xs 0 = xs[0]? := at_nat xs 0
@[simp] theorem at_1 {α : Type} (xs : List α) : atI xs 1 = xs[1]? := at_nat xs 1
@[simp] theorem at_2 {α : Type} (xs : List α) : atI xs 2 = xs[2]? := at_nat xs 2
@[simp] theorem at_3 {α : Type} (xs : List α) : atI xs 3 = xs[3]? := at_nat xs 3
@[simp] theorem at_4 {α : Type} (xs : List α) : atI xs 4 = xs[4]? := at_nat xs 4
@[simp] theorem at_5 {α : Type} (xs : List α) : atI xs 5 = xs[5]? := at_nat xs 5
@[simp] theorem at_6 {α : Type} (xs : List α) : atI xs 6 = xs[6]? := at_nat xs 6
@[simp] theorem at_7 {α : Type} (xs : List α) : atI xs 7 = xs[7]? := at_nat xs 7
theorem at_int {α : Type} (xs : List α) {k : Int} (h0 : 0 ≤ k) : atI xs k = xs[k.toNat]? := by
  have e : k = (k.toNat : Int) := by omega
  rw [e, at_nat, Int.toNat_natCast]
end
/-! ### loops -/
theorem forL_ok {g : FG} {b : FS} (I : Nat → Sls → AS → Prop) (Rt : PV → AS → Prop) : ∀ (ps : List PV) (η : Sls) (S : AS) (k : Nat), (∀ (i : Nat) p η S, ps[i]? = some p → I (k + i) η S → ∃ η1 S1, g p η S = .nx η1 S1 ∧ ((∃ η2 S2, b η1 S1 = .nx η2 S2 ∧ I (k + i + 1) η2 S2) ∨ ∃ v S2, b η1 S1 = .rt v S2 ∧ Rt v S2)) → I k η S →
    (∃ η' S', forL g b ps η S = .nx η' S' ∧ I (k + ps.length) η' S') ∨ ∃ v S', forL g b ps η S = .rt v S' ∧ Rt v S'
  | [], η, S, k, _, h => .inl ⟨η, S, rfl, h⟩
  | p :: ps, η, S, k, hs, h => by
    obtain ⟨η1, S1, e1, h1⟩ := hs 0 p η S rfl h
    unfold forL
    rw [e1]
    dsimp only [onlyNx]
    rcases h1 with ⟨η2, S2, e2, h2⟩ | ⟨v, S2, e2, h2⟩
    · rw [e2]
      dsimp only
      have := forL_ok I Rt ps η2 S2 (k + 1) (fun i p η S e hi => by
        have := hs (i + 1) p η S (by simpa using e) (by rw [show k + (i + 1) = k + 1 + i by omega]; exact hi)
        rw [show k + (i + 1) + 1 = k + 1 + i + 1 by omega] at this
        exact this) h2
      rw [show k + 1 + ps.length = k + (p :: ps).length by simp; omega] at this
      exact this
    · rw [e2]
      exact .inr ⟨v, S2, rfl, h2⟩
/-- a loop that goes to its end -/
theorem forL_nx {g : FG} {b : FS} (I : Nat → Sls → AS → Prop) (ps : List PV) (η : Sls) (S : AS) (hs : ∀ (i : Nat) p η S, ps[i]? = some p → I i η S → ∃ η1 S1, g p η S = .nx η1 S1 ∧ ∃ η2 S2, b η1 S1 = .nx η2 S2 ∧ I (i + 1) η2 S2) (h : I 0 η S) :
    ∃ η' S', forL g b ps η S = .nx η' S' ∧ I ps.length η' S' := by
  rcases forL_ok I (fun _ _ => False) ps η S 0 (fun i p η S e hi => by
    rw [Nat.zero_add] at hi ⊢
    obtain ⟨η1, S1, a, b⟩ := hs i p η S e hi
    exact ⟨η1, S1, a, .inl b⟩) h with h | ⟨_, _, _, z⟩
  · rw [Nat.zero_add] at h
    exact h
  · exact z.elim
theorem compL_ok {g : FGx} {t : FT} {e : FE} {η : Sls} (I : Nat → List PV → AS → Prop) : ∀ (ps acc : List PV) (S : AS) (k : Nat), (∀ (i : Nat) p acc S, ps[i]? = some p → I (k + i) acc S → ∃ η2, g p η = some η2 ∧ ((∃ S1, t η2 S = .ok false S1 ∧ I (k + i + 1) acc S1) ∨ ∃ S1 q S2, t η2 S = .ok true S1 ∧ e η2 S1 = .ok q S2 ∧ acc.length < 1000000 ∧ I (k + i + 1) (acc ++ [q]) S2)) → I k acc S →
    ∃ xs S', compL g t e ps acc η S = .ok xs S' ∧ I (k + ps.length) xs S'
  | [], acc, S, k, _, h => ⟨acc, S, rfl, h⟩
  | p :: ps, acc, S, k, hs, h => by
    obtain ⟨η2, e1, h1⟩ := hs 0 p acc S rfl h
    have step : ∀ acc' S', I (k + 1) acc' S' → ∃ xs S'', compL g t e ps acc' η S' = .ok xs S'' ∧ I (k + (p :: ps).length) xs S'' := fun acc' S' hi => by
      have := compL_ok I ps acc' S' (k + 1) (fun i p acc S e hi => by
        have := hs (i + 1) p acc S (by simpa using e) (by rw [show k + (i + 1) = k + 1 + i by omega]; exact hi)
        rw [show k + (i + 1) + 1 = k + 1 + i + 1 by omega] at this
        exact this) hi
      rw [show k + 1 + ps.length = k + (p :: ps).length by simp; omega] at this
      exact this
    unfold compL
    rw [e1]
    dsimp only
    rcases h1 with ⟨S1, e2, h2⟩ | ⟨S1, q, S2, e2, e3, hl, h2⟩
    · rw [e2]
      exact step acc S1 h2
    · rw [e2]
      dsimp only [pureR, R.bind_ok]
      rw [if_pos rfl, e3]
      dsimp only [pureR, R.bind_ok]
      rw [if_pos hl]
      exact step _ S2 h2
/-- a comprehension whose parts change nothing -/
theorem compL_map {g : FGx} {t : FT} {e : FE} {η : Sls} {S : AS} (c : PV → Bool) (h : PV → PV) : ∀ (ps acc : List PV), (∀ p ∈ ps, ∃ η2, g p η = some η2 ∧ t η2 S = .ok (c p) S ∧ (c p = true → e η2 S = .ok (h p) S)) → acc.length + ps.length ≤ 1000000 → compL g t e ps acc η S = .ok (acc ++ (ps.filter c).map h) S
  | [], acc, _, _ => by
    show R.ok acc S = _
    simp
  | p :: ps, acc, hs, hl => by
    obtain ⟨η2, e1, e2, e3⟩ := hs p List.mem_cons_self
    have ih := fun acc' hl' => compL_map c h ps acc' (fun q hq => hs q (List.mem_cons_of_mem _ hq)) hl'
    have hl' : acc.length + (ps.length + 1) ≤ 1000000 := by simpa using hl
    unfold compL
    rw [e1]
    dsimp only
    rw [e2]
    dsimp only [pureR, R.bind_ok]
    cases hc : c p with
    | false =>
      rw [if_neg Bool.false_ne_true, ih acc (by omega), List.filter_cons_of_neg (by rw [hc]; exact Bool.false_ne_true)]
    | true =>
      rw [if_pos rfl, e3 hc]
      dsimp only [pureR, R.bind_ok]
      rw [if_pos (by omega), ih (acc ++ [h p]) (by simp; omega), List.filter_cons_of_pos hc]
      simp
end Fu

end
section
set_option Elab.async false
set_option linter.all false
set_option maxRecDepth 100000
set_option maxHeartbeats 4000000
/-! A comprehension over a list that others hold, and that stays. -/
namespace Fu
open PySem PySem.Spec PyProof.Rows L2
open He (ga)
open Classical in
noncomputable def compLR (n : Nat) (us : List PV) (g : FGx) (t : FT) (e : FE) : List PV → List PV → Sls → AS → R (List PV)
  | [], acc, _, S => if S[n]? = some (some (.lst us)) then .ok acc S else .stuck
  | p :: ps, acc, η, S => if S[n]? = some (some (.lst us)) then match g p η with
    | some η2 => (pureR (t η2 S)).bind fun b S1 => if b = true then (pureR (e η2 S1)).bind fun q S2 => if acc.length < 1000000 then compLR n us g t e ps (acc ++ [q]) η S2 else .stuck else compLR n us g t e ps acc η S1
    | none => .stuck else .stuck
noncomputable def compR (f : FE) (vs : List Nat) (g : FGx) (t : FT) (e : FE) : FN := fun η S => (f η S).bind fun p S => match p with
  | .ref n => match S[n]? with
    | some (some (.lst ps)) => compLR n ps g t e ps [] (wipeS η vs) S
    | _ => .stuck
  | _ => .stuck
section
variable {K : PySem.W.Frag} {pv : V × Option Addr} {E : XW} {F O : Addr → Prop} {H H' H1 H3 : Hp} {φ φ' φ1 : List Addr} {S S' S1 : AS} {η η' η1 : Sls} {σ σ' σ1 : L2.St} {D : Ends}
theorem sn_lcR {ti : TE} {g : TG} {tt : TT} {te : TE} {vs : List Nat} {fi : FE} {fg : FGx} {ft : FT} {fe : FE} (hi : SimE K pv E ti fi) (hg : SimGx K pv vs g fg) (ht : SimT K pv (fun _ _ _ _ => False) tt ft) (he : SimE K pv (fun _ _ _ _ => False) te fe) :
    SimN K pv E (tLc (iAny K ti) g tt te vs) (compR fi vs fg ft fe) := fun H φ S F O η σ Q w hO re h => by
  refine hi H φ S F O η σ _ w hO re (h.bind.imp fun pl φ1 S1 H1 e1 w1 h1 v rv => ?_)
  split at h1
  case h_2 => exact h1.elim
  rename_i n
  have hv : ∃ a, v = V.ref a := by cases rv; exact ⟨_, rfl⟩
  obtain ⟨a, rfl⟩ := hv
  have en : φ1[n]? = some a := by cases rv; assumption
  split at h1
  case h_2 => exact h1.elim
  rename_i ps eps
  obtain ⟨a', ho, ea, eh, ro⟩ := w1.live n _ eps
  have e' : a' = a := by rw [en] at ea; exact (Option.some.inj ea).symm
  rw [e'] at eh
  have hl : ∃ vs0, ho = .lst vs0 := by cases ro; exact ⟨_, rfl⟩
  obtain ⟨vs0, rfl⟩ := hl
  refine .inl ⟨_, rfl, .inl ⟨⟨_, .inl (.inl eh)⟩, fun D hD => ?_⟩⟩
  have nD : H D = none := by
    cases q : H D with
    | none => rfl
    | some o => exact (e1.stay D (by rw [q]; nofun) hD).elim
  -- the state while the list grows: F with D
  have k0 : ∀ a, H1 a ≠ none → ¬ uni (Lv φ1 S1) F a → upd H1 D (.lst []) a = H1 a ∧ ¬ uni (Lv φ1 S1) (uni F (at1 D)) a := fun a ha m => by
    have ne : a ≠ D := fun z => ha (by rw [z]; exact hD)
    exact ⟨upd_ne ne, fun z => z.elim (fun z => m (.inl z)) fun z => z.elim (fun z => m (.inr z)) ne⟩
  have w0 : WF K (upd H1 D (.lst [])) φ1 S1 (uni F (at1 D)) := by
    have w2 := w1.new (o := .lst []) hD
    refine ⟨w2.len, fun n u e => ?_, w2.inj, fun a z => z.elim (w2.away a) fun z => ?_⟩
    · obtain ⟨a, ho, e1, e2, r⟩ := w1.live n u e
      exact ⟨a, ho, e1, (upd_ne fun z => by rw [z, hD] at e2; cases e2).trans e2, r.mono k0 fun _ _ h => h⟩
    · rw [show a = D from z]
      exact ⟨by rw [upd_same]; nofun, lv_none w1 hD⟩
  have re1 := re.mono w hO e1
  have re0 : RE K pv (upd H1 D (.lst [])) φ1 (uni (Lv φ1 S1) (uni F (at1 D))) O η σ := ⟨re1.len, fun i p h => let ⟨v, h1, h2⟩ := re1.val i p h; ⟨v, h1, h2.mono k0 fun _ _ h => h⟩, fun i xs h => by
    obtain ⟨a, vs, h1, h2, h3, h4⟩ := re1.own i xs h
    have ne : a ≠ D := fun z => by rw [z, hD] at h2; cases h2
    exact ⟨a, vs, h1, (upd_ne ne).trans h2, h3.mono k0 fun _ _ h => h, h4⟩, fun i fs h => let ⟨h1, h2⟩ := re1.pin i fs h; ⟨h1, h2.mono k0 fun _ _ h => h⟩⟩
  generalize hr0 : compLR n ps fg ft fe ps [] (wipeS η vs) S1 = r0 at h1
  have inD : ∀ {H2 : Hp} {φ2 : List Addr} {S2 : AS} {H4 : Hp} {φ4 : List Addr} {S4 : AS}, WF K H2 φ2 S2 (uni F (at1 D)) → Ev H2 φ2 (Lv φ2 S2) H4 φ4 (Lv φ4 S4) → ∀ {us : List V}, H2 D = some (.lst us) → H4 D = some (.lst us) := fun w e us hl => (e.keep D (by rw [hl]; nofun) (w.away D (.inr rfl)).2).1.trans hl
  refine ⟨fun i m H' => m = ps.length - i ∧ i ≤ ps.length ∧ ∃ φ' S' acc us, r0 = compLR n ps fg ft fe (ps.drop i) acc (wipeS η vs) S' ∧ Ev H1 φ1 (Lv φ1 S1) H' φ' (Lv φ' S') ∧ WF K H' φ' S' (uni F (at1 D)) ∧ H' D = some (.lst us) ∧ RVs K H' φ' (uni (Lv φ' S') (uni F (at1 D))) acc us,
    ⟨_, rfl, Nat.zero_le _, φ1, S1, [], [], by rw [List.drop_zero]; exact hr0.symm, ev_new hD, w0, upd_same, .nil⟩, ?_⟩
  rintro i m H' ⟨rfl, hi, φ', S', acc, us, eq, ev, ws, hl, hr⟩
  have kk : ∀ a, H1 a ≠ none → ¬ uni (Lv φ1 S1) F a → H' a = H1 a ∧ ¬ uni (Lv φ' S') (uni F (at1 D)) a := fun a h m => by
    obtain ⟨q2, m2⟩ := ev.keep a h fun z => m (.inl z)
    have ne : a ≠ D := fun z => h (by rw [z]; exact hD)
    exact ⟨q2, fun z => z.elim m2 fun z => z.elim (fun z => m (.inr z)) ne⟩
  have hst : S'[n]? = some (some (.lst ps)) := by
    rw [eq] at h1
    by_cases q : S'[n]? = some (some (.lst ps))
    · exact q
    · cases hd : ps.drop i with
      | nil => rw [hd] at h1; unfold compLR at h1; rw [if_neg q] at h1; exact (show False from h1).elim
      | cons _ _ => rw [hd] at h1; unfold compLR at h1; rw [if_neg q] at h1; exact (show False from h1).elim
  have hw : (∀ (i : Nat) p, ps[i]? = some p → (Itl K a).go i H' ∧ ∀ x H3, (Itl K a).yld i H' x H3 → (∀ a, H' a ≠ none → H3 a = H' a) ∧ RV K H3 φ' (uni (Lv φ' S') (uni F (at1 D))) p x) ∧ (Itl K a).stop ps.length H' := by
    obtain ⟨b, ho2, eb, eh2, ro2⟩ := ws.live n _ hst
    have e' : b = a := by rw [ev.pre n a en] at eb; exact (Option.some.inj eb).symm
    rw [e'] at eh2
    cases ro2 with
    | lst rv2 =>
      have sq : SqL K H' a _ := .inl (.inl eh2)
      refine ⟨fun i p e => ?_, ⟨_, sq, by rw [← rv2.len]; exact Nat.le_refl _⟩⟩
      obtain ⟨v, e1, rv⟩ := rv2.get e
      refine ⟨⟨_, v, sq, e1⟩, fun x H3 hy => ?_⟩
      obtain ⟨rfl, hy⟩ := hy
      have := hy _ sq
      rw [e1] at this
      cases this
      exact ⟨fun _ _ => rfl, rv⟩
  by_cases hlt : i < ps.length
  · have e : ps[i]? = some ps[i] := List.getElem?_eq_getElem hlt
    obtain ⟨hgo, hy⟩ := hw.1 i _ e
    rw [List.drop_eq_getElem_cons hlt] at eq
    refine .inr ⟨hgo, fun H2 => ∃ φ2 S2 acc us, r0 = compLR n ps fg ft fe (ps.drop (i + 1)) acc (wipeS η vs) S2 ∧ Ev H1 φ1 (Lv φ1 S1) H2 φ2 (Lv φ2 S2) ∧ WF K H2 φ2 S2 (uni F (at1 D)) ∧ H2 D = some (.lst us) ∧ RVs K H2 φ2 (uni (Lv φ2 S2) (uni F (at1 D))) acc us,
      fun H2 ⟨φ2, S2, acc, us, a, b, c, d, g⟩ => ⟨_, by omega, rfl, hlt, φ2, S2, acc, us, a, b, c, d, g⟩, fun x H3 hx => ?_⟩
    obtain ⟨ext, rv⟩ := hy x H3 hx
    have w3 := ws.ext ext
    have e3 : Ev H' φ' (Lv φ' S') H3 φ' (Lv φ' S') := ev_ext ext
    have hO' : ∀ a, O a → uni F (at1 D) a := fun a z => .inl (hO a z)
    have re3 : RE K pv H3 φ' (uni (Lv φ' S') (uni F (at1 D))) O η σ := ⟨re1.len, fun i p h => by
      obtain ⟨v, h1, h2⟩ := re1.val i p h
      refine ⟨v, h1, h2.mono (fun a h m => ?_) ev.pre⟩
      obtain ⟨q1, m1⟩ := kk a h m
      exact ⟨(ext a (by rw [q1]; exact h)).trans q1, m1⟩, fun i xs h => by
      obtain ⟨a, vs, h1, h2, h3, h4⟩ := re1.own i xs h
      have q1 := (ev.keep a (by rw [h2]; nofun) (w1.away a (hO a h4)).2).1
      refine ⟨a, vs, h1, (ext a (by rw [q1, h2]; nofun)).trans (q1.trans h2), h3.mono (fun a h m => ?_) ev.pre, h4⟩
      obtain ⟨q1, m1⟩ := kk a h m
      exact ⟨(ext a (by rw [q1]; exact h)).trans q1, m1⟩, fun i fs h => by
      obtain ⟨h1, h2⟩ := re1.pin i fs h
      refine ⟨h1, h2.mono (fun a h m => ?_) ev.pre⟩
      obtain ⟨q1, m1⟩ := kk a h m
      exact ⟨(ext a (by rw [q1]; exact h)).trans q1, m1⟩⟩
    have hl3 : H3 D = some (.lst us) := (ext D (by rw [hl]; nofun)).trans hl
    have hr3 := hr.mono (fun a h m => ⟨ext a h, m⟩) fun _ _ h => h
    rw [eq] at h1
    unfold compLR at eq h1
    rw [if_pos hst] at eq h1
    cases q : fg ps[i] (wipeS η vs) with
    | none => rw [q] at h1; exact (show False from h1).elim
    | some η2 =>
      rw [q] at eq h1
      dsimp only at eq h1
      refine hg H3 φ' _ O _ η2 _ _ x _ (re3.wipe vs) rv q fun σ2 re2 hwi => ⟨hwi.trans (wipe_idem σ vs vs fun _ h => h), ?_⟩
      refine ht H3 φ' S' (uni F (at1 D)) O η2 σ2 _ w3 hO' re2 ?_
      cases q2 : ft η2 S' with
      | exc c fs S4 => rw [q2] at h1; exact (show False from h1).elim
      | stuck => rw [q2] at h1; exact (show False from h1).elim
      | ok b S4 =>
        rw [q2] at eq h1
        dsimp only [pureR, R.bind_ok] at eq h1
        intro φ4 H4 ev4 w4
        have l4 := inD w3 ev4 hl3
        have r4 := ev4.rvs hr3
        have ev14 := (ev.trans e3).trans ev4
        cases b with
        | false =>
          rw [if_neg Bool.false_ne_true] at eq ⊢
          exact ⟨φ4, S4, acc, us, eq, ev14, w4, l4, r4⟩
        | true =>
          rw [if_pos rfl] at eq h1 ⊢
          have re4 := re2.mono w3 hO' ev4
          refine he H4 φ4 S4 (uni F (at1 D)) O η2 σ2 _ w4 hO' re4 ?_
          cases q5 : fe η2 S4 with
          | exc c fs S5 => rw [q5] at h1; exact (show False from h1).elim
          | stuck => rw [q5] at h1; exact (show False from h1).elim
          | ok y S5 =>
            rw [q5] at eq h1
            dsimp only [pureR, R.bind_ok] at eq h1
            intro φ5 H5 ev5 w5 yv ry
            split at h1
            · rename_i hsz
              rw [if_pos hsz] at eq
              have l5 := inD w4 ev5 l4
              have r5 := ev5.rvs r4
              refine ⟨us, l5, ?_, ?_⟩
              · rw [r5.len, sizeLine_eq]
                omega
              have ev15 := ev14.trans ev5
              have hlD : ¬ Lv φ5 S5 D := (w5.away D (.inr rfl)).2
              have kw : ∀ a, H5 a ≠ none → ¬ uni (Lv φ5 S5) (uni F (at1 D)) a → upd H5 D (.lst (us ++ [yv])) a = H5 a ∧ ¬ uni (Lv φ5 S5) (uni F (at1 D)) a := fun a h m => ⟨upd_ne fun z => m (.inr (.inr z)), m⟩
              have sw : ∀ a, H5 a ≠ none → upd H5 D (.lst (us ++ [yv])) a ≠ none := fun a h => by
                by_cases e : a = D
                · subst e; rw [upd_same]; nofun
                · rw [upd_ne e]; exact h
              have w6 : WF K (upd H5 D (.lst (us ++ [yv]))) φ5 S5 (uni F (at1 D)) := by
                refine ⟨w5.len, fun n u e => ?_, w5.inj, fun a z => ?_⟩
                · obtain ⟨a, ho, e1, e2, r⟩ := w5.live n u e
                  exact ⟨a, ho, e1, (upd_ne fun z => hlD ⟨n, u, e, by rw [← z]; exact e1⟩).trans e2, r.mono kw fun _ _ h => h⟩
                · obtain ⟨h1, h2⟩ := w5.away a z
                  exact ⟨sw a h1, h2⟩
              refine ⟨φ5, S5, acc ++ [y], us ++ [yv], eq, ⟨fun a h => sw a (ev15.stay a h), fun a h m => ?_, ev15.pre⟩, w6, upd_same, (r5.append (.cons ry .nil)).mono kw fun _ _ h => h⟩
              obtain ⟨q, m'⟩ := ev15.keep a h m
              exact ⟨(upd_ne fun z => h (by rw [z]; exact hD)).trans q, m'⟩
            · exact h1.elim
  · have e : i = ps.length := by omega
    subst e
    rw [List.drop_length] at eq
    refine .inl ⟨hw.2, ?_⟩
    rw [eq] at h1
    unfold compLR at h1
    rw [if_pos hst] at h1
    exact h1 φ' H' ev (ws.less fun a z => .inl z) D us nD ws hl hr
end
/-- such a comprehension whose parts change nothing -/
theorem compLR_map {g : FGx} {t : FT} {e : FE} {η : Sls} {S : AS} {n : Nat} {us : List PV} (hS : S[n]? = some (some (.lst us))) (c : PV → Bool) (h : PV → PV) : ∀ (ps acc : List PV), (∀ p ∈ ps, ∃ η2, g p η = some η2 ∧ t η2 S = .ok (c p) S ∧ (c p = true → e η2 S = .ok (h p) S)) → acc.length + ps.length ≤ 1000000 → compLR n us g t e ps acc η S = .ok (acc ++ (ps.filter c).map h) S
  | [], acc, _, _ => by
    unfold compLR
    rw [if_pos hS]
    simp
  | p :: ps, acc, hs, hl => by
    obtain ⟨η2, e1, e2, e3⟩ := hs p List.mem_cons_self
    have ih := fun acc' hl' => compLR_map hS c h ps acc' (fun q hq => hs q (List.mem_cons_of_mem _ hq)) hl'
    have hl' : acc.length + (ps.length + 1) ≤ 1000000 := by simpa using hl
    unfold compLR
    rw [if_pos hS, e1]
    dsimp only
    rw [e2]
    dsimp only [pureR, R.bind_ok]
    cases hc : c p with
    | false =>
      rw [if_neg Bool.false_ne_true, ih acc (by omega), List.filter_cons_of_neg (by rw [hc]; exact Bool.false_ne_true)]
    | true =>
      rw [if_pos rfl, e3 hc]
      dsimp only [pureR, R.bind_ok]
      rw [if_pos (by omega), ih (acc ++ [h p]) (by simp; omega), List.filter_cons_of_pos hc]
      simp
end Fu

end
section
set_option Elab.async false
set_option linter.all false
set_option maxRecDepth 100000
set_option maxHeartbeats 4000000
/-! a < b < c. -/
namespace Fu
open PySem PySem.Spec PyProof.Rows L2
open He (ga)
def chainF (g g' : PV → PV → AS → R PV) (a b c : FE) : FE := fun η S => (a η S).bind fun p S => (b η S).bind fun q S => (pureR (g p q S)).bind fun z S => (toB z S).bind fun k S => if k = true then (c η S).bind fun w S => pureR (g' q w S) else .ok (.bl false) S
section
variable {K : PySem.W.Frag} {pv : V × Option Addr} {E : XW} {F O : Addr → Prop} {H H' H1 H3 : Hp} {φ φ' φ1 : List Addr} {S S' S1 : AS} {η η' η1 : Sls} {σ σ' σ1 : L2.St}
theorem se_chain {r r' : R2} {g g' : PV → PV → AS → R PV} {ta tb tc : TE} {fa fb fc : FE} (hr : SimR K r g) (hr' : SimR K r' g') (ha : SimB K pv E ta fa) (hb : SimB K pv E tb fb) (hc : SimB K pv E tc fc) : SimE K pv E (tChain r r' ta tb tc) (chainF g g' fa fb fc) := fun H φ S F O η σ Q w hO re h => by
  refine ha H φ S F O η σ _ w hO re (h.bind.imp fun p φ1 S1 H1 e1 w1 h1 x rx => ?_)
  refine hb H1 φ1 S1 F O η σ _ w1 hO (re.mono w hO e1) (h1.bind.imp fun q φ2 S2 H2 e2 w2 h2 y ry => ?_)
  refine hr H2 φ2 S2 F O p q x y _ w2 hO (rx.mono w1 hO e2) ry ((pureR_go h2.bind).imp fun z φ3 S3 H3 e3 w3 h3 v rv => ?_)
  obtain ⟨k, _, ev, h4⟩ := toB_go w3 (O := O) (.inl rv) h3.bind
  refine ⟨k, ev, ?_⟩
  cases k with
  | false => exact h4.ok w3 _ .bl
  | true =>
    refine hc H3 φ3 S3 F O η σ _ w3 hO (((re.mono w hO e1).mono w1 hO e2).mono w2 hO e3) (h4.bind.imp fun u φ4 S4 H4 e4 w4 h5 t rt => ?_)
    exact hr' H4 φ4 S4 F O q u y t Q w4 hO ((ry.mono w2 hO e3).mono w3 hO e4) rt (pureR_go h5)
@[simp] theorem e_chain {g g' : PV → PV → AS → R PV} {a b c : FE} : chainF g g' a b c η S = (a η S).bind fun p S => (b η S).bind fun q S => (pureR (g p q S)).bind fun z S => (toB z S).bind fun k S => if k = true then (c η S).bind fun w S => pureR (g' q w S) else .ok (.bl false) S := rfl
end
end Fu

end
section
set_option Elab.async false
set_option linter.all false
set_option maxRecDepth 100000
set_option maxHeartbeats 4000000
/-! x in a list of data of any depth. -/
namespace Fu
open PySem PySem.Spec PyProof.Rows L2
open He (ga)
theorem un65 {k : Nat} {A : Around} (r : Room k A) : A.units + 65 < cLine := by have := r.un; omega
def rInW (K : PySem.W.Frag) (neg : Bool) : R2 := fun x y H Q => rInU K neg x y H Q ∨ ∃ d ds, Dp K H x d ∧ Dp K H y (.list ds) ∧ SeqAt.shaped d = true ∧ SeqAt.shaped (.list ds) = true ∧ Q (.bl (neg ^^ ds.any fun z => PyData.eqv z d)) H
theorem op_inW {X : Cx} {K : PySem.W.Frag} (hu : X.A.units + 65 < cLine) (h : X.K = K := by rfl) : OpR X (compareOp .In) (rInW K false) := by
  subst h
  intro pins s σ H x y v u Q I rx ry q
  rcases q with q | ⟨d, ds, h1, h2, h3, h4, q⟩
  · exact op_inU rfl pins s σ H x y v u Q I rx ry q
  · exact op_inD hu pins s σ H x y v u Q I rx ry ⟨d, ds, h1, h2, h3, h4, by rw [Bool.false_xor] at q; exact q⟩
theorem op_notInW {X : Cx} {K : PySem.W.Frag} (hu : X.A.units + 65 < cLine) (h : X.K = K := by rfl) : OpR X (compareOp .NotIn) (rInW K true) := by
  subst h
  intro pins s σ H x y v u Q I rx ry q
  rcases q with q | ⟨d, ds, h1, h2, h3, h4, q⟩
  · exact op_notInU rfl pins s σ H x y v u Q I rx ry q
  · exact op_notInD hu pins s σ H x y v u Q I rx ry ⟨d, ds, h1, h2, h3, h4, by rw [Bool.true_xor] at q; exact q⟩
def inD (neg : Bool) : PV → PV → AS → R PV := fun p q S => match q with
  | .lst xs => if (isD p && isDs xs && SeqAt.shaped (toD p) && SeqAt.shaped (.list (toDs xs))) = true then .ok (.bl (neg ^^ (toDs xs).any fun z => PyData.eqv z (toD p))) S else .stuck
  | .kls xs => if (isD p && isDs xs && SeqAt.shaped (toD p) && SeqAt.shaped (.list (toDs xs))) = true then .ok (.bl (neg ^^ (toDs xs).any fun z => PyData.eqv z (toD p))) S else .stuck
  | _ => .stuck
/-- scalars at once, other data by their depth -/
def inW (neg : Bool) : PV → PV → AS → R PV := fun p q S => match inG neg p q S with
  | .stuck => inD neg p q S
  | r => r
section
variable {K : PySem.W.Frag} {pv : V × Option Addr} {E : XW} {F O : Addr → Prop} {H H' H1 H3 : Hp} {φ φ' φ1 : List Addr} {S S' S1 : AS} {η η' η1 : Sls} {σ σ' σ1 : L2.St}
theorem sr_inW {neg : Bool} : SimR K (rInW K neg) (inW neg) := fun H φ S F O p q x y Q w hO rp rq h => by
  unfold inW at h
  cases e : inG neg p q S with
  | ok a S1 =>
    rw [e] at h
    exact .inl (sr_in H φ S F O p q x y Q w hO rp rq (by rw [e]; exact h))
  | exc c fs S1 =>
    rw [e] at h
    exact .inl (sr_in H φ S F O p q x y Q w hO rp rq (by rw [e]; exact h))
  | stuck =>
    rw [e] at h
    dsimp only at h
    unfold inD at h
    split at h
    · split at h
      · rename_i xs hc
        simp only [Bool.and_eq_true] at hc
        obtain ⟨⟨⟨h1, h2⟩, h3⟩, h4⟩ := hc
        have dq : Dp K H y (.list (toDs xs)) := by
          have := rq.dp (show isD (.lst xs) = true by unfold isD; exact h2)
          unfold toD at this
          exact this
        exact .inr ⟨toD p, toDs xs, rp.dp h1, dq, h3, h4, h.ok w _ .bl⟩
      · exact h.elim
    · split at h
      · rename_i xs hc
        simp only [Bool.and_eq_true] at hc
        obtain ⟨⟨⟨h1, h2⟩, h3⟩, h4⟩ := hc
        have dq : Dp K H y (.list (toDs xs)) := by
          have := rq.dp (show isD (.kls xs) = true by unfold isD; exact h2)
          unfold toD at this
          exact this
        exact .inr ⟨toD p, toDs xs, rp.dp h1, dq, h3, h4, h.ok w _ .bl⟩
      · exact h.elim
    · exact h.elim
end
section
variable {neg : Bool} {p : PV} {xs : List PV} {S : AS}
theorem inW_lst (h : (flat p && xs.all flat) = true) : inW neg p (.lst xs) S = .ok (.bl (neg ^^ mem p xs)) S := by
  unfold inW inG
  dsimp only
  rw [if_pos h]
theorem inW_ktu (h : (flat p && xs.all flat) = true) : inW neg p (.ktu xs) S = .ok (.bl (neg ^^ mem p xs)) S := by
  unfold inW inG
  dsimp only
  rw [if_pos h]
theorem inW_tup (h : (flat p && xs.all flat) = true) : inW neg p (.tup xs) S = .ok (.bl (neg ^^ mem p xs)) S := by
  unfold inW inG
  dsimp only
  rw [if_pos h]
theorem inW_of {q r : PV} {S' : AS} (h : inG neg p q S = .ok r S') : inW neg p q S = .ok r S' := by
  unfold inW
  rw [h]
end
end Fu

end
section
set_option Elab.async false
set_option linter.all false
set_option maxRecDepth 100000
set_option maxHeartbeats 4000000
/-! Own operators (&, |, ^, ~, comparisons), own truth, properties, static methods. -/
namespace Fu
open PySem PySem.Spec PyProof.Rows L2
open He (ga)
def isIns (c : Str) (p : PV) (S : AS) : Bool := match p with
  | .ref n => match S[n]? with
    | some (some (.ins d _)) => decide (d = c)
    | _ => false
  | _ => false
def ownG (c : Str) (f : Fn) : PV → PV → AS → R PV := fun p q S => if isIns c p S = true then (if isIns c q S = true then f [p, q] S else .stuck) else .stuck
def ownG1 (c : Str) (f : Fn) : PV → AS → R PV := fun p S => if isIns c p S = true then f [p] S else .stuck
def propF (c : Str) (f : Fn) (a : FE) : FE := fun η S => (a η S).bind fun p S => if isIns c p S = true then pureR (f [p] S) else .stuck
/-- the own truth of an instance as a test -/
def ownT (c : Str) (f : Fn) (a : FE) : FT := fun η S => (a η S).bind fun p S => if isIns c p S = true then (pureR (f [p] S)).bind toB else .stuck
def boolG (c : Str) (f : Fn) : List PV → AS → R PV := fun ps S => match ps with
  | [p] => if isIns c p S = true then (pureR (f [p] S)).bind fun v S => match v with | .bl b => .ok (.bl b) S | _ => .stuck else .stuck
  | _ => .stuck
section
variable {K : PySem.W.Frag} {pv : V × Option Addr} {E : XW} {F O : Addr → Prop} {H H' H1 H3 : Hp} {φ φ' φ1 : List Addr} {S S' S1 : AS} {M : Addr → Prop} {η η' η1 : Sls} {σ σ' σ1 : L2.St} {c : Str} {f : Fn}
theorem isIns_ok {p : PV} {x : V} (w : WF K H φ S F) (r : RV K H φ M p x) (e : isIns c p S = true) : ∃ a dx fs, x = .ref a ∧ H a = some (.ins (ga K c) dx fs) := by
  unfold isIns at e
  split at e
  · split at e
    · rename_i n d fs e0
      have hd : d = c := of_decide_eq_true e
      subst hd
      cases r with
      | ref ha =>
        obtain ⟨dx, gs, h2, _⟩ := w.ins e0 ha
        exact ⟨_, dx, gs, rfl, h2⟩
    · cases e
  · cases e
theorem isIns_rv {p : PV} {x : V} (r : RB K H φ M O p x) (e : isIns c p S = true) : RV K H φ M p x := by
  rcases r with r | ⟨_, _, _, rfl, _⟩
  · exact r
  · cases e
theorem sr_own : SimR K (OwnX.rOwn (ga K c) (spF K 2 f) (fun _ _ _ => False)) (ownG c f) := fun H φ S F O p q x y Q w hO rp rq h => by
  unfold ownG at h
  split at h
  · rename_i e1
    split at h
    · rename_i e2
      have v1 := isIns_rv rp e1
      have v2 := isIns_rv rq e2
      obtain ⟨a, dx, fs, rfl, ha⟩ := isIns_ok w v1 e1
      obtain ⟨b, dy, gs, rfl, hb⟩ := isIns_ok w v2 e2
      exact ⟨a, dx, fs, b, dy, gs, rfl, rfl, ha, hb, φ, S, F, [p, q], rfl, w, .cons v1 (.cons v2 .nil), h⟩
    · exact h.elim
  · exact h.elim
/-- an operation by values, or the own one of two instances -/
def orOwn (c : Str) (f : Fn) (g : PV → PV → AS → R PV) : PV → PV → AS → R PV := fun p q S => if isIns c p S = true then ownG c f p q S else g p q S
theorem sr_orOwn {r : R2} {g : PV → PV → AS → R PV} (hr : SimR K r g) : SimR K (fun x y H Q => r x y H Q ∨ OwnX.rOwn (ga K c) (spF K 2 f) (fun _ _ _ => False) x y H Q) (orOwn c f g) := fun H φ S F O p q x y Q w hO rp rq h => by
  unfold orOwn at h
  split at h
  · exact .inr (sr_own H φ S F O p q x y Q w hO rp rq h)
  · exact .inl (hr H φ S F O p q x y Q w hO rp rq h)
theorem su_own : SimU K (OwnX.rOwn1 (ga K c) (spF K 1 f) (fun _ _ _ => False)) (ownG1 c f) := fun H φ S F O p x Q w hO rp h => by
  unfold ownG1 at h
  split at h
  · rename_i e1
    have v1 := isIns_rv rp e1
    obtain ⟨a, dx, fs, rfl, ha⟩ := isIns_ok w v1 e1
    exact ⟨a, dx, fs, rfl, ha, φ, S, F, [p], rfl, w, .cons v1 .nil, h⟩
  · exact h.elim
theorem se_prop {ta : TE} {fa : FE} (a : SimE K pv E ta fa) : SimE K pv E (tProp (ga K c) (spF K 1 f) [] (fun _ _ _ => False) ta) (propF c f fa) := fun H φ S F O η σ Q w hO re h => by
  refine a H φ S F O η σ _ w hO re (h.bind.imp fun p φ1 S1 H1 e1 w1 h1 x rx => ?_)
  split at h1
  · rename_i e
    obtain ⟨b, dx, fs, rfl, hb⟩ := isIns_ok w1 rx e
    exact ⟨b, dx, fs, rfl, hb, φ1, S1, F, [p], rfl, w1, .cons rx .nil, pureR_go h1⟩
  · exact h1.elim
theorem st_own {ta : TE} {fa : FE} (a : SimE K pv E ta fa) : SimT K pv E (fun σ H Q => ta σ H fun x H' => OwnX.rTruth (ga K c) (spF K 1 f) (fun _ _ _ => False) x H' Q) (ownT c f fa) := fun H φ S F O η σ Q w hO re h => by
  refine a H φ S F O η σ _ w hO re (h.bind.imp fun p φ1 S1 H1 e1 w1 h1 x rx => ?_)
  split at h1
  · rename_i e
    obtain ⟨b, dx, fs, rfl, hb⟩ := isIns_ok w1 rx e
    refine ⟨b, dx, fs, rfl, hb, φ1, S1, F, [p], rfl, w1, .cons rx .nil, (pureR_go h1.bind).imp fun q φ2 S2 H2 e2 w2 h2 v rv => ?_⟩
    obtain ⟨k, _, ev, h3⟩ := toB_go w2 (O := O) (.inl rv) h2
    exact ⟨k, ev, h3⟩
  · exact h1.elim
theorem sc_ownB : SimC K (fun xs H Q => ∃ x, xs = [x] ∧ OwnX.rTruth (ga K c) (spF K 1 f) (fun _ _ _ => False) x H fun b H' => Q (.bl b) H') (boolG c f) := fun H φ S F O ps xs Q w hO rs h => by
  unfold boolG at h
  split at h
  · rename_i p
    obtain ⟨x, rfl, rp⟩ := rs.one
    split at h
    · rename_i e
      have v1 := isIns_rv rp e
      obtain ⟨b, dx, fs, rfl, hb⟩ := isIns_ok w v1 e
      refine ⟨_, rfl, b, dx, fs, rfl, hb, φ, S, F, [p], rfl, w, .cons v1 .nil, (pureR_go h.bind).imp fun q φ2 S2 H2 e2 w2 h2 v rv => ?_⟩
      split at h2
      · rename_i b
        cases rv
        exact ⟨b, rfl, h2.ok w2 _ .bl⟩
      · exact h2.elim
    · exact h.elim
  · exact h.elim
def boolC : List PV → AS → R PV := fun ps S => match ps with
  | [.int i] => .ok (.bl (i != 0)) S
  | [.bl b] => .ok (.bl b) S
  | _ => .stuck
theorem sc_bool : SimC K (fun xs H Q => (∃ i, xs = [.int i] ∧ Q (.bl (i != 0)) H) ∨ ∃ k, xs = [.bl k] ∧ Q (.bl k) H) boolC := fun H φ S F O ps xs Q w hO rs h => by
  unfold boolC at h
  split at h
  · rename_i i
    obtain ⟨x, rfl, rp⟩ := rs.one
    obtain rfl := rp.int
    exact .inl ⟨i, rfl, h.ok w _ .bl⟩
  · rename_i b
    obtain ⟨x, rfl, rp⟩ := rs.one
    obtain rfl := rp.bl
    exact .inr ⟨b, rfl, h.ok w _ .bl⟩
  · exact h.elim
/-- bool(x) of a value, or of an instance -/
def boolU (c : Str) (f : Fn) : List PV → AS → R PV := fun ps S => match ps with
  | [p] => if isIns c p S = true then boolG c f [p] S else boolC [p] S
  | _ => .stuck
theorem sc_boolU : SimC K (fun xs H Q => ((∃ i, xs = [.int i] ∧ Q (.bl (i != 0)) H) ∨ ∃ k, xs = [.bl k] ∧ Q (.bl k) H) ∨ ∃ x, xs = [x] ∧ OwnX.rTruth (ga K c) (spF K 1 f) (fun _ _ _ => False) x H fun b H' => Q (.bl b) H') (boolU c f) := fun H φ S F O ps xs Q w hO rs h => by
  unfold boolU at h
  split at h
  · split at h
    · exact .inr (sc_ownB H φ S F O _ xs Q w hO rs h)
    · exact .inl (sc_bool H φ S F O _ xs Q w hO rs h)
  · exact h.elim
theorem GoE.step {α : Type} {E : XK} {r : R α} {P : α → List Addr → AS → Hp → Prop} (h : GoE K E F H φ S r P) (e : Ev H φ (Lv φ S) H1 φ1 (Lv φ1 S)) : GoE K E F H1 φ1 S r P := by
  cases r with
  | ok a S1 => exact fun φ2 H2 e2 w2 => h φ2 H2 (e.trans e2) w2
  | exc c fs S2 => exact fun φ2 H2 d e2 w2 x => h φ2 H2 d (e.trans e2) w2 x
  | stuck => exact h
/-- a static method called off its class -/
def statF (n : Nat) (f : Fn) (a : FA) : FE := fun η S => (a η S).bind fun ps S => if ps.length = n then f ps S else .stuck
def conF (c : Str) : FE := cF (.con c)
theorem se_stat {n : Nat} {to : TE} {t : TA} {fa : FA} {X : XK} (o : SimE K pv (fun _ => X) to (conF c)) (a : SimA K pv (fun _ => X) t fa) : SimE K pv (fun _ => X) (Hk.tStat (ga K c) (spF K n f) X to t) (statF n f fa) := fun H φ S F O η σ Q w hO re h => by
  refine o H φ S F O η σ _ w hO re (fun φ1 H1 e1 w1 x rx => ?_)
  have ex : x = .ref (ga K c) := by cases rx; rfl
  refine ⟨ex, a H1 φ1 S F O η σ _ w1 hO (re.mono w hO e1) ((GoE.step h e1).bind.imp fun ps φ2 S2 H2 e2 w2 h2 vs rs => ?_)⟩
  split at h2
  · rename_i hl
    exact ⟨φ2, S2, F, ps, hl, w2, rs, h2⟩
  · exact h2.elim
section
@[simp] theorem e_prop {a : FE} : propF c f a η S = (a η S).bind fun p S => if isIns c p S = true then pureR (f [p] S) else .stuck := rfl
@[simp] theorem e_ownT {a : FE} : ownT c f a η S = (a η S).bind fun p S => if isIns c p S = true then (pureR (f [p] S)).bind toB else .stuck := rfl
@[simp] theorem e_stat {n : Nat} {a : FA} : statF n f a η S = (a η S).bind fun ps S => if ps.length = n then f ps S else .stuck := rfl
end
end
end Fu

end
section
set_option Elab.async false
set_option linter.all false
set_option maxRecDepth 100000
set_option maxHeartbeats 4000000
/-! Own errors: made, raised, caught. -/
namespace Fu
open PySem PySem.Spec PyProof.Rows L2
open He (ga)
section
variable {K : PySem.W.Frag} {F O : Addr → Prop} {H H' H1 : Hp} {φ φ' φ1 : List Addr} {S S' S1 : AS} {η : Sls} {σ : L2.St}
/-- a new object that is not to be touched -/
theorem WF.newF (w : WF K H φ S F) {p : Addr} {o : HO} (hp : H p = none) : WF K (upd H p o) φ S (uni F (at1 p)) := by
  have k : ∀ a, H a ≠ none → ¬ uni (Lv φ S) F a → upd H p o a = H a ∧ ¬ uni (Lv φ S) (uni F (at1 p)) a := fun a ha m => by
    have ne : a ≠ p := fun z => ha (by rw [z]; exact hp)
    exact ⟨upd_ne ne, fun z => z.elim (fun z => m (.inl z)) fun z => z.elim (fun z => m (.inr z)) ne⟩
  have w2 := w.new (o := o) hp
  refine ⟨w2.len, fun n u e => ?_, w2.inj, fun a z => z.elim (w2.away a) fun z => ?_⟩
  · obtain ⟨a, ho, e1, e2, r⟩ := w.live n u e
    exact ⟨a, ho, e1, (upd_ne fun z => by rw [z, hp] at e2; cases e2).trans e2, r.mono k fun _ _ h => h⟩
  · rw [show a = p from z]
    exact ⟨by rw [upd_same]; nofun, lv_none w hp⟩
theorem RV.newF {p : Addr} {o : HO} (hp : H p = none) {x : PV} {v : V} (r : RV K H φ (uni (Lv φ S) F) x v) : RV K (upd H p o) φ (uni (Lv φ S) (uni F (at1 p))) x v :=
  r.mono (fun a ha m => ⟨upd_ne fun z => ha (by rw [z]; exact hp), fun z => z.elim (fun z => m (.inl z)) fun z => z.elim (fun z => m (.inr z)) fun z => ha (by rw [show a = p from z]; exact hp)⟩) fun _ _ h => h
theorem RVs.newF {p : Addr} {o : HO} (hp : H p = none) {x : List PV} {v : List V} (r : RVs K H φ (uni (Lv φ S) F) x v) : RVs K (upd H p o) φ (uni (Lv φ S) (uni F (at1 p))) x v :=
  r.mono (fun a ha m => ⟨upd_ne fun z => ha (by rw [z]; exact hp), fun z => z.elim (fun z => m (.inl z)) fun z => z.elim (fun z => m (.inr z)) fun z => ha (by rw [show a = p from z]; exact hp)⟩) fun _ _ h => h
/-- one of these changed -/
theorem WF.updF (w : WF K H φ S F) {p : Addr} {o : HO} (hp : F p) : WF K (upd H p o) φ S F := by
  have lp := (w.away p hp).2
  refine ⟨w.len, fun n u e => ?_, w.inj, fun a z => ?_⟩
  · obtain ⟨a, ho, e1, e2, r⟩ := w.live n u e
    refine ⟨a, ho, e1, (upd_ne fun z => lp ⟨n, u, e, by rw [← z]; exact e1⟩).trans e2, r.mono (fun b _ m => ⟨upd_ne fun z => m (.inr (by rw [z]; exact hp)), m⟩) fun _ _ h => h⟩
  · obtain ⟨h1, h2⟩ := w.away a z
    refine ⟨?_, h2⟩
    by_cases e : a = p
    · rw [e, upd_same]; nofun
    · rw [upd_ne e]; exact h1
theorem RFs.updF {p : Addr} {o : HO} (hp : F p) {x : List (Str × PV)} {v : List (Str × V)} (r : RFs K H φ (uni (Lv φ S) F) x v) : RFs K (upd H p o) φ (uni (Lv φ S) F) x v :=
  r.mono (fun b _ m => ⟨upd_ne fun z => m (.inr (by rw [z]; exact hp)), m⟩) fun _ _ h => h
theorem RFs.newF {p : Addr} {o : HO} (hp : H p = Option.none) {x : List (Str × PV)} {v : List (Str × V)} (r : RFs K H φ (uni (Lv φ S) F) x v) : RFs K (upd H p o) φ (uni (Lv φ S) (uni F (at1 p))) x v :=
  r.mono (fun a ha m => ⟨upd_ne fun z => ha (by rw [z]; exact hp), fun z => z.elim (fun z => m (.inl z)) fun z => z.elim (fun z => m (.inr z)) fun z => ha (by rw [show a = p from z]; exact hp)⟩) fun _ _ h => h
theorem RE.k {pv : V × Option Addr} {M M' : Addr → Prop} (k : ∀ a, H a ≠ none → ¬ M a → H' a = H a ∧ ¬ M' a) (g : ∀ (n : Nat) a, φ[n]? = some a → φ'[n]? = some a) (r : RE K pv H φ M (fun _ => False) η σ) : RE K pv H' φ' M' (fun _ => False) η σ where
  len := r.len
  val := fun i p h => let ⟨v, h1, h2⟩ := r.val i p h; ⟨v, h1, h2.mono k g⟩
  own := fun i xs h => let ⟨_, _, _, _, _, z⟩ := r.own i xs h; z.elim
  pin := fun i fs h => let ⟨h1, h2⟩ := r.pin i fs h; ⟨h1, h2.mono k g⟩
end
/-! ### __init__ -/
abbrev FX := List (Str × FE)
def initL : FX → List (Str × PV) → Sls → AS → R (List (Str × PV))
  | [], acc, _, S => .ok acc S
  | (f, e) :: r, acc, η, S => (e η S).bind fun p S => if acc.length ≤ 900 then initL r ((f, p) :: acc) η S else .stuck
/-- the exception at a so far; xd: its dict -/
def XS (K : PySem.W.Frag) (H : Hp) (φ : List Addr) (M : Addr → Prop) (a : Addr) (c : Str) (xd : Option Addr) (acc : List (Str × PV)) : Prop :=
  (xd = none ∧ acc = [] ∧ H a = some (exo a (ga K c) none)) ∨ ∃ dx gs, xd = some dx ∧ H a = some (exo a (ga K c) (some dx)) ∧ H dx = some (exd dx gs) ∧ RFs K H φ M acc gs ∧ dx ≠ a
def Fx (F : Addr → Prop) (xd : Option Addr) : Addr → Prop := fun b => F b ∨ xd = some b
def XEnd (K : PySem.W.Frag) (a : Addr) (c : Str) (H : Hp) (φ : List Addr) (S : AS) (F : Addr → Prop) (xd : Option Addr) (r : R (List (Str × PV))) (Q : Hp → Prop) : Prop := match r with
  | .ok acc S' => ∀ φ' H' xd', (∀ b, H b ≠ none → H' b ≠ none) → (∀ b, H b ≠ none → ¬ Lv φ S b → b ≠ a → xd ≠ some b → H' b = H b ∧ ¬ Lv φ' S' b) → (∀ (n : Nat) b, φ[n]? = some b → φ'[n]? = some b) →
    WF K H' φ' S' (Fx F xd') → (∀ dx, xd' = some dx → xd = some dx ∨ H dx = none) → XS K H' φ' (uni (Lv φ' S') (Fx F xd')) a c xd' acc → Q H'
  | _ => False
def SimXI (K : PySem.W.Frag) (c : Str) (t : TS) (fx : FX) : Prop := ∀ (a : Addr) (H : Hp) (φ : List Addr) (S : AS) (F : Addr → Prop) (xd : Option Addr) (η : Sls) (σ : L2.St) (acc : List (Str × PV)) (D : Ends), WF K H φ S (Fx F xd) → F a → RE K (.ref a, none) H φ (uni (Lv φ S) (Fx F xd)) (fun _ => False) η σ → η[0]? = some (.pin []) →
  XS K H φ (uni (Lv φ S) (Fx F xd)) a c xd acc → XEnd K a c H φ S F xd (initL fx acc η S) (D.nx σ) → t D σ H
section
variable {K : PySem.W.Frag} {F O : Addr → Prop} {H H' H1 : Hp} {φ φ' φ1 : List Addr} {S S' S1 : AS} {η : Sls} {σ : L2.St} {c f : Str}
theorem sxi_nil : SimXI K c tNext [] := fun a H φ S F xd η σ acc D w fa re e0 xs h => h φ H xd (fun _ z => z) (fun _ _ m _ _ => ⟨rfl, m⟩) (fun _ _ z => z) w (fun _ z => .inl z) xs
theorem sxi_cons {te : TE} {fe : FE} {t : TS} {fx : FX} (ho : OexC K (ga K c)) (hn : PySem.W.findIn K (.ref (ga K c)) f = some none) (s : ∀ pv : V × Option Addr, SimE K pv (fun _ _ _ _ => False) te fe) (b : SimXI K c t fx) : SimXI K c (tSeq (tOst K f (tVar 0) te) t) ((f, fe) :: fx) := by
  intro a H φ S F xd η σ acc D w fa re e0 xs h
  have h0 : XEnd K a c H φ S F xd ((fe η S).bind fun p S => if acc.length ≤ 900 then initL fx ((f, p) :: acc) η S else .stuck) (D.nx σ) := h
  show te σ H fun y H1 => tVar 0 σ H1 fun x H2 => _
  refine s (.ref a, none) H φ S (Fx F xd) (fun _ => False) η σ _ w (fun _ z => z.elim) re ?_
  cases q : fe η S with
  | exc c' fs S1 => rw [q] at h0; exact (show False from h0).elim
  | stuck => rw [q] at h0; exact (show False from h0).elim
  | ok p S1 =>
    rw [q] at h0
    intro φ1 H1 e1 w1 v rv
    rw [R.bind_ok] at h0
    split at h0
    · rename_i hl
      have re1 := re.k e1.keepU e1.pre
      obtain ⟨s0, _⟩ := re1.pin 0 _ e0
      have xs1 : XS K H1 φ1 (uni (Lv φ1 S1) (Fx F xd)) a c xd acc := by
        rcases xs with ⟨e, e2, e3⟩ | ⟨dx, gs, e, e2, e3, e4, e5⟩
        · exact .inl ⟨e, e2, (e1.keep a (by rw [e3]; nofun) (w.away a (.inl fa)).2).1.trans e3⟩
        · exact .inr ⟨dx, gs, e, (e1.keep a (by rw [e2]; nofun) (w.away a (.inl fa)).2).1.trans e2, (e1.keep dx (by rw [e3]; nofun) (w.away dx (.inr e)).2).1.trans e3, e4.mono e1.keepU e1.pre, e5⟩
      refine ⟨.ref a, s0, a, ga K c, rfl, ho, hn, ?_⟩
      -- what is kept by the whole
      have fin : ∀ (H2 : Hp) (xd2 : Option Addr), (∀ b, H1 b ≠ none → H2 b ≠ none) → (∀ b, H1 b ≠ none → b ≠ a → xd ≠ some b → H2 b = H1 b) → WF K H2 φ1 S1 (Fx F xd2) → (∀ dx, xd2 = some dx → xd = some dx ∨ H1 dx = none) → (∀ dx, xd = some dx → xd2 = some dx) →
          XS K H2 φ1 (uni (Lv φ1 S1) (Fx F xd2)) a c xd2 ((f, p) :: acc) → t D σ H2 := fun H2 xd2 st kp w2 nd od xs2 => by
        have k2 : ∀ b, H1 b ≠ none → ¬ uni (Lv φ1 S1) (Fx F xd) b → H2 b = H1 b ∧ ¬ uni (Lv φ1 S1) (Fx F xd2) b := fun b hb m => by
          refine ⟨kp b hb (fun z => m (.inr (.inl (by rw [z]; exact fa)))) (fun z => m (.inr (.inr z))), fun z => z.elim (fun z => m (.inl z)) fun z => z.elim (fun z => m (.inr (.inl z))) fun z => ?_⟩
          rcases nd b z with y | y
          · exact m (.inr (.inr y))
          · exact hb y
        refine b a H2 φ1 S1 F xd2 η σ ((f, p) :: acc) D w2 fa (re1.k k2 fun _ _ z => z) e0 xs2 ?_
        cases q2 : initL fx ((f, p) :: acc) η S1 with
        | exc c' fs S3 => rw [q2] at h0; exact (show False from h0).elim
        | stuck => rw [q2] at h0; exact (show False from h0).elim
        | ok acc' S3 =>
          rw [q2] at h0
          intro φ3 H3 xd3 st3 kp3 pre3 w3 nd3 xs3
          refine h0 φ3 H3 xd3 (fun b z => st3 b (st b (e1.stay b z))) (fun b hb m na nx => ?_) (fun n b z => pre3 n b (e1.pre n b z)) w3 (fun dx z => ?_) xs3
          · obtain ⟨q3, m3⟩ := e1.keep b hb m
            have hb1 : H1 b ≠ none := by rw [q3]; exact hb
            have q4 := kp b hb1 na nx
            have hb2 : H2 b ≠ none := by rw [q4]; exact hb1
            obtain ⟨q5, m5⟩ := kp3 b hb2 m3 na fun z => by
              rcases nd b z with y | y
              · exact nx y
              · exact hb1 y
            exact ⟨q5.trans (q4.trans q3), m5⟩
          · rcases nd3 dx z with y | y
            · rcases nd dx y with y | y
              · exact .inl y
              · refine .inr ?_
                cases q6 : H dx with
                | none => rfl
                | some o => exact (e1.stay dx (by rw [q6]; nofun) y).elim
            · refine .inr ?_
              cases q6 : H dx with
              | none => rfl
              | some o => exact (st dx (e1.stay dx (by rw [q6]; nofun)) y).elim
      rcases xs1 with ⟨e, e2, e3⟩ | ⟨dx, gs, e, e2, e3, e4, e5⟩
      · subst e
        subst e2
        refine .inl ⟨e3, fun dx nd ne => ?_⟩
        have fdx : ¬ F dx := fun z => (w1.away dx (.inl z)).1 nd
        have w2 : WF K (upd H1 dx (exd dx [(f, v)])) φ1 S1 (uni (Fx F none) (at1 dx)) := w1.newF nd
        have w3 := w2.updF (p := a) (o := exo a (ga K c) (some dx)) (.inl (.inl fa))
        have fe : ∀ b, Fx F (some dx) b → uni (Fx F none) (at1 dx) b := fun b z => z.elim (fun z => .inl (.inl z)) fun z => .inr (Option.some.inj z).symm
        refine fin _ (some dx) (fun b hb => ?_) (fun b hb na nx => ?_) (w3.less fe) (fun dx' z => .inr (by rw [← Option.some.inj z]; exact nd)) (fun _ z => by cases z) (.inr ⟨dx, [(f, v)], rfl, upd_same, (upd_ne ne).trans upd_same, ?_, ne⟩)
        · by_cases z : b = a
          · rw [z, upd_same]; nofun
          · rw [upd_ne z]
            by_cases y : b = dx
            · rw [y, upd_same]; nofun
            · rw [upd_ne y]; exact hb
        · rw [upd_ne na, upd_ne fun z => hb (by rw [z]; exact nd)]
        · have r2 : RFs K (upd H1 dx (exd dx [(f, v)])) φ1 (uni (Lv φ1 S1) (uni (Fx F none) (at1 dx))) [(f, p)] [(f, v)] := RFs.newF nd (.cons rv .nil)
          have r3 := r2.updF (p := a) (o := exo a (ga K c) (some dx)) (.inl (.inl fa))
          exact r3.mono (fun b _ m => ⟨rfl, fun z => m (z.imp id (fe b))⟩) fun _ _ z => z
      · refine .inr ⟨dx, gs, e2, e3, by rw [e4.len]; exact hl, ?_⟩
        have fdx : Fx F xd dx := .inr e
        refine fin _ xd (fun b hb => ?_) (fun b hb na nx => upd_ne fun z => nx (by rw [z]; exact e)) (w1.updF fdx) (fun dx' z => .inl z) (fun _ z => z) (.inr ⟨dx, (f, v) :: gs, e, (upd_ne (Ne.symm e5)).trans e2, upd_same, RFs.updF fdx (.cons rv e4), e5⟩)
        by_cases y : b = dx
        · rw [y, upd_same]; nofun
        · rw [upd_ne y]; exact hb
    · exact h0.elim
/-- what __init__ of an own error does -/
def initF (N n : Nat) (fx : FX) : List PV → AS → R (List (Str × PV)) := fun ps S => initL fx [] (.pin [] :: (ps.map Sl.val ++ List.replicate (N - 1 - n) Sl.no)) S
def spX (K : PySem.W.Frag) (c : Str) (N n : Nat) (fx : FX) : Sp := fun vs H Q E => ∃ a us φ S F ps, vs = .ref a :: us ∧ ps.length = n ∧ H a = some (exo a (ga K c) none) ∧ WF K H φ S F ∧ F a ∧ RVs K H φ (uni (Lv φ S) F) ps us ∧ XEnd K a c H φ S F none (initF N n fx ps S) (Q .non)
theorem spX_len {N n : Nat} {fx : FX} {vs : List V} {Q : VK} {E : XK} (h : spX K c N n fx vs H Q E) : vs.length = n + 1 := by
  obtain ⟨a, us, φ, S, F, ps, rfl, e, _, _, _, r, _⟩ := h
  rw [List.length_cons, r.len, e]
theorem x_go {N : List Str} {n : Nat} {t : TS} {fx : FX} {E : XK} {vs : List V} {Q : VK} (s : SimXI K c t fx) (h : spX K c N.length n fx vs H Q E) : t { nx := fun _ H' => Q .non H', rt := Q } (L2.start N vs) H := by
  obtain ⟨a, us, φ, S, F, ps, rfl, e, ha, w, fa, r, g⟩ := h
  have f0 : ∀ b, Fx F none b → F b := fun b z => z.elim id fun z => by cases z
  have l1 : us.length = n := by rw [r.len, e]
  refine s a H φ S F none (.pin [] :: (ps.map Sl.val ++ List.replicate (N.length - 1 - n) Sl.no)) _ [] _ (w.less f0) fa ⟨?_, fun i p h => ?_, fun i xs h => ?_, fun i fs h => ?_⟩ rfl (.inl ⟨rfl, rfl, ha⟩) g
  · unfold L2.start
    simp only [List.length_append, List.length_map, List.length_replicate, List.length_cons, l1, e]
    omega
  · cases i with
    | zero => cases h
    | succ i =>
      have h2 : (ps.map Sl.val ++ List.replicate (N.length - 1 - n) Sl.no)[i]? = some (.val p) := h
      obtain ⟨v, h1, h2⟩ := r.get (start_val h2)
      refine ⟨v, ?_, h2.less fun b z => z.imp id (f0 b)⟩
      unfold L2.start
      have hlt : i < us.length := (List.getElem?_eq_some_iff.mp h1).1
      rw [List.getElem?_append_left (by rw [List.length_map, List.length_cons]; omega), List.getElem?_map, List.getElem?_cons_succ, h1]
      rfl
  · cases i with
    | zero => cases h
    | succ i => exact (start_own (show (ps.map Sl.val ++ List.replicate (N.length - 1 - n) Sl.no)[i]? = some (.own xs) from h)).elim
  · cases i with
    | zero => cases h; exact ⟨rfl, .inl ⟨rfl, rfl⟩⟩
    | succ i => exact (start_pin (show (ps.map Sl.val ++ List.replicate (N.length - 1 - n) Sl.no)[i]? = some (.pin fs) from h)).elim
end
/-! ### raise -/
def raiseS (c : Str) (n : Nat) (g : List PV → AS → R (List (Str × PV))) (fa : FA) : FS := fun η S => lift (fa η S) η fun ps S => if ps.length = n ∧ n ≤ 1000 then (match g ps S with
  | .ok (f :: fs) S => .exc c (f :: fs) η S
  | _ => .stuck) else .stuck
section
variable {K : PySem.W.Frag} {pv : V × Option Addr} {c : Str}
theorem ss_raise {W : WX} {ta : TA} {fa : FA} {N n : Nat} {fx : FX} (s : SimA K pv (fun σ cls d H => W cls d σ H) ta fa) : SimS K pv (fun σ cls d H => W cls d σ H) (fun _ σ H => Hk.tOwnErr (ga K c) (spX K c N n fx) ta σ H fun cls d H' => W cls d σ H') (raiseS c n (initF N n fx) fa) := fun H φ S F η σ D w g => by
  unfold raiseS at g
  refine s H φ S _ _ η σ _ w.wf (fun _ z => .inr z) w.re ((GoS.lift w g).imp fun ps φ1 S1 H1 e1 w1 h1 vs rs => ?_)
  obtain ⟨g1, ws1⟩ := h1
  split at g1
  · rename_i hl
    obtain ⟨hl, hn⟩ := hl
    refine ⟨by rw [rs.len, hl]; exact hn, fun a na => ⟨a, vs, φ1, S1, uni (uni F (Own η σ)) (at1 a), ps, rfl, hl, upd_same, w1.newF na, .inr rfl, rs.newF na, ?_⟩⟩
    cases q : initF N n fx ps S1 with
    | exc c' fs S2 => rw [q] at g1; exact (show False from g1).elim
    | stuck => rw [q] at g1; exact (show False from g1).elim
    | ok fs S2 =>
      rw [q] at g1
      intro φ2 H2 xd st kp pre w2 nd xs
      rcases xs with ⟨_, rfl, ea⟩ | ⟨dx, gs, rfl, ea, ed, rf, ne⟩
      · exact (show False from g1).elim
      · have ndx : H1 dx = none := by
          rcases nd dx rfl with y | y
          · cases y
          · rw [upd_ne ne] at y; exact y
        refine ⟨rfl, dx, gs, ea, ed, ndx, ?_⟩
        have ina : ∀ b, b ≠ a → H1 b ≠ none → upd H1 a (exo a (ga K c) none) b ≠ none := fun b nb hb => by rw [upd_ne nb]; exact hb
        have nea : ∀ b, H1 b ≠ none → b ≠ a := fun b hb z => hb (by rw [z]; exact na)
        have ned : ∀ b, H1 b ≠ none → b ≠ dx := fun b hb z => hb (by rw [z]; exact ndx)
        have hv : ∀ b, b ≠ a → b ≠ dx → upd (del H2 a) dx (.xd gs) b = H2 b := fun b n1 n2 => by rw [upd_ne n2, del_ne n1]
        have ev : Ev H1 φ1 (Lv φ1 S1) (upd (del H2 a) dx (.xd gs)) φ2 (Lv φ2 S2) := ⟨fun b hb => by
          rw [hv b (nea b hb) (ned b hb)]
          exact st b (ina b (nea b hb) hb), fun b hb m => by
          obtain ⟨q1, q2⟩ := kp b (ina b (nea b hb) hb) m (nea b hb) nofun
          exact ⟨by rw [hv b (nea b hb) (ned b hb), q1, upd_ne (nea b hb)], q2⟩, pre⟩
        have k : ∀ b, H2 b ≠ none → ¬ uni (Lv φ2 S2) (Fx (uni (uni F (Own η σ)) (at1 a)) (some dx)) b → upd (del H2 a) dx (.xd gs) b = H2 b ∧ ¬ uni (Lv φ2 S2) (uni F (Own η σ)) b := fun b hb m =>
          ⟨hv b (fun z => m (.inr (.inl (.inr z)))) (fun z => m (.inr (.inr (by rw [z])))), fun z => m (z.imp id fun z => .inl (.inl z))⟩
        have wf2 : WF K (upd (del H2 a) dx (.xd gs)) φ2 S2 (uni F (Own η σ)) := by
          refine ⟨w2.len, fun m u e => ?_, w2.inj, fun b z => ?_⟩
          · obtain ⟨b, ho, e1, e2, r⟩ := w2.live m u e
            have lb : Lv φ2 S2 b := ⟨m, u, e, e1⟩
            refine ⟨b, ho, e1, ?_, r.mono k fun _ _ z => z⟩
            rw [hv b (fun z => (w2.away a (.inl (.inr rfl))).2 (by rw [← z]; exact lb)) (fun z => (w2.away dx (.inr rfl)).2 (by rw [← z]; exact lb))]
            exact e2
          · obtain ⟨h1, h2⟩ := w1.away b z
            refine ⟨ev.stay b h1, ?_⟩
            exact (ev.keep b h1 h2).2
        cases fs with
        | nil => exact (show False from g1).elim
        | cons f1 fs1 =>
        refine g1 φ2 _ (some dx) σ (EvS.of ev) (ws1.step ev wf2) (.inr ⟨dx, gs, rfl, upd_same, rf.mono k fun _ _ z => z, fun z => z.elim (w2.away dx (.inr rfl)).2 fun z => (w1.away dx z).1 ndx⟩)
  · exact (show False from g1).elim
end
end Fu

end
section
set_option Elab.async false
set_option linter.all false
set_option maxRecDepth 100000
set_option maxHeartbeats 4000000
/-! try; what stands in an except suite; defs called there. -/
namespace Fu
open PySem PySem.Spec PyProof.Rows L2
open He (ga)
def isPin : Sl → Bool
  | .pin _ => true
  | _ => false
def noPin (η : Sls) : Bool := η.all fun s => !isPin s
section
variable {K : PySem.W.Frag} {pv pv' : V × Option Addr} {F : Addr → Prop} {H H' H1 : Hp} {φ φ' φ1 : List Addr} {S S' S1 : AS} {η : Sls} {σ : L2.St}
theorem noPin_at (h : noPin η = true) {i : Nat} {fs : List (Str × PV)} (e : η[i]? = some (.pin fs)) : False := by
  unfold noPin at h
  have := List.all_eq_true.mp h _ (List.mem_of_getElem? e)
  simp [isPin] at this
theorem own_put {i : Nat} {s : Sl} {x : Option V} (hs : ∀ xs, s ≠ .own xs) {a : Addr} (h : Own (η.set i s) (σ.set i x) a) : Own η σ a := by
  obtain ⟨j, xs, h1, h2⟩ := h
  by_cases e : i = j
  · subst e
    rw [List.getElem?_set] at h1
    split at h1
    · split at h1
      · exact absurd (Option.some.inj h1) (hs xs)
      · cases h1
    · exact absurd rfl ‹_›
  · rw [List.getElem?_set_ne e] at h1 h2
    exact ⟨j, xs, h1, h2⟩
theorem WS.put {i : Nat} {s : Sl} {x : Option V} (w : WS K pv H φ S F η σ) (h1 : ∀ xs, s ≠ .own xs) (h2 : ∀ p, s ≠ .val p)
    (hp : ∀ (j : Nat) fs, (η.set i s)[j]? = some (.pin fs) → (σ.set i x)[j]? = some (some pv'.1) ∧ RX K H φ (uni (Lv φ S) (uni F (Own η σ))) fs pv'.2) : WS K pv' H φ S F (η.set i s) (σ.set i x) where
  wf := w.wf.less (uni_imp fun a => own_put h1)
  re := by
    have hm : ∀ a, uni (Lv φ S) (uni F (Own (η.set i s) (σ.set i x))) a → uni (Lv φ S) (uni F (Own η σ)) a := uni_imp (uni_imp fun a => own_put h1)
    refine ⟨by rw [List.length_set, List.length_set]; exact w.re.len, fun j q h => ?_, fun j xs h => ?_, fun j fs h => ?_⟩
    · by_cases e : i = j
      · subst e
        rw [List.getElem?_set] at h
        split at h
        · split at h
          · exact absurd (Option.some.inj h) (h2 q)
          · cases h
        · exact absurd rfl ‹_›
      · rw [List.getElem?_set_ne e] at h ⊢
        obtain ⟨u, h1, h2⟩ := w.re.val j q h
        exact ⟨u, h1, h2.less hm⟩
    · by_cases e : i = j
      · subst e
        rw [List.getElem?_set] at h
        split at h
        · split at h
          · exact absurd (Option.some.inj h) (h1 xs)
          · cases h
        · exact absurd rfl ‹_›
      · have h0 := h
        rw [List.getElem?_set_ne e] at h ⊢
        obtain ⟨a, vs, h1, h2, h3, h4⟩ := w.re.own j xs h
        exact ⟨a, vs, h1, h2, h3.less hm, ⟨j, xs, h0, by rw [List.getElem?_set_ne e]; exact h1⟩⟩
    · obtain ⟨e1, e2⟩ := hp j fs h
      exact ⟨e1, e2.less hm⟩
  inj := fun j k xs ys a e1 e2 h3 h4 => by
    have z : ∀ {l : Nat} {zs : List PV}, (η.set i s)[l]? = some (.own zs) → i ≠ l := fun {l zs} h e => by
      subst e
      rw [List.getElem?_set] at h
      split at h
      · split at h
        · exact absurd (Option.some.inj h) (h1 _)
        · cases h
      · exact absurd rfl ‹_›
    rw [List.getElem?_set_ne (z e1)] at h3
    rw [List.getElem?_set_ne (z e2)] at h4
    have h1' := e1
    have h2' := e2
    rw [List.getElem?_set_ne (z e1)] at h1'
    rw [List.getElem?_set_ne (z e2)] at h2'
    exact w.inj j k xs ys a h1' h2' h3 h4
  dis := fun a h z => w.dis a h (own_put h1 z)
theorem EvS.put {i : Nat} {s : Sl} {x : Option V} (h1 : ∀ xs, s ≠ .own xs) : EvS H φ S η σ H φ S (η.set i s) (σ.set i x) := ⟨fun _ h => h, fun a h m => ⟨rfl, fun z => m (uni_imp (fun a => own_put h1) a z)⟩, fun _ _ h => h⟩
end
/-! ### try .. except X as e -/
def cleanS (i : Nat) (r : RF) : RF := match r with
  | .nx η S => if noPin (η.set i .no) = true then .nx (η.set i .no) S else .stuck
  | .bk η S => if noPin (η.set i .no) = true then .bk (η.set i .no) S else .stuck
  | .ct η S => if noPin (η.set i .no) = true then .ct (η.set i .no) S else .stuck
  | .rt p S => .rt p S
  | _ => .stuck
def tryS (i : Nat) (tab : List (Str × Bool)) (f : FS) (su : Str → FS) : FS := fun η S => match f η S with
  | .exc c fs η' S' => (match tab.lookup c with
    | some true => if noPin η' = true then (if i < η'.length then cleanS i (su c (η'.set i (.pin fs)) S') else .stuck) else .stuck
    | some false => .exc c fs η' S'
    | none => .stuck)
  | r => r
def tTryAs (K : PySem.W.Frag) (c : Value) (i : Nat) (ts : Addr → Value → Option Addr → TS) (Wout : WX) (tb : WX → TS) : TS := fun D σ H => tb (wAs K c i ts Wout D) D σ H
def tTryM (K : PySem.W.Frag) (Wout : WX) (l : List (Value × (Addr → Value → Option Addr → TS))) (tb : WX → TS) : TS := fun D σ H => tb (wMany K Wout D l) D σ H
def tRaise (t : L2.St → Hp → XK → Prop) (W : WX) : TS := fun _ σ H => t σ H fun cls d H' => W cls d σ H'
section
variable {X : Cx} {x n : Str} {c : Value} {i : Nat} {body suite : List Stmt} {b₀ : Stmt} {np pos pos' : Pos} {tb : WX → TS} {ts : Addr → Value → Option Addr → TS} {Wout : WX}
theorem ps_tryAs (hs : X.stack = X.env :: X.outer) (hf : X.env.frame = some X.env.locals) (hN : X.N.Nodup) (hi : X.N[i]? = some n) (hln : X.env.kindOf n = some .local) (hc : Names X x c) (tk : L2N.Takes X Wout)
    (hb : ∀ (W : WX) (pn : List (Addr × Obj)) (xe : Value → Shared → Prop), L2N.Takes (X.tr pn xe) W → PassesOwn (model X.prog X.w) X.A X.env xe → PSs (X.tr pn xe) body (tb W))
    (hsu : ∀ (a : Addr) (oe : Obj) (cls : Value) (d : Option Addr) (pn : List (Addr × Obj)), L2N.Zn cls d oe → (∃ vs, oe.data = .fields vs) → PSs (X.suite a ((a, oe) :: pn)) (b₀ :: suite) (ts a cls d)) :
    PS X (.Try body [.ExceptHandler (some (.Name x np)) (some n) (b₀ :: suite) pos'] [] [] pos) (tTryAs X.K c i ts Wout tb) := L2N.ps_try_as hs hf hN hi hln hc tk hb hsu
theorem ps_tryM {h₀ : ExceptHandler} {hds : List ExceptHandler} {l : List (Value × (Addr → Value → Option Addr → TS))} (hs : X.stack = X.env :: X.outer) (hf : X.env.frame = some X.env.locals) (tk : L2N.Takes X Wout)
    (hb : ∀ (W : WX) (pn : List (Addr × Obj)) (xe : Value → Shared → Prop), L2N.Takes (X.tr pn xe) W → PassesOwn (model X.prog X.w) X.A X.env xe → PSs (X.tr pn xe) body (tb W))
    (hh : L2N.HdsOk X (h₀ :: hds) l) : PS X (.Try body (h₀ :: hds) [] [] pos) (tTryM X.K Wout l tb) := L2N.ps_try_many hs hf tk hb hh
theorem ps_raiseW {W : WX} {e : Expr} {t : L2.St → Hp → XK → Prop} (hc : X.calm = true) (tk : L2N.Takes X W) (he : L2N.PMk X e t) : PS X (.Raise (some e) none pos) (tRaise t W) := L2N.ps_raise hc tk he
end
section
variable {K : PySem.W.Frag} {pv : V × Option Addr} {Wout : WX} {tb : WX → TS} {ts : Addr → Value → Option Addr → TS} {f : FS} {su : Str → FS} {tab : List (Str × Bool)} {cv : Value} {i : Nat}
theorem ss_try (hb : ∀ W : WX, SimS K pv (fun σ cls d H => W cls d σ H) (tb W) f) (hs : ∀ a c d, SimS K (.ref a, d) (fun _ _ _ _ => False) (ts a (.ref (ga K c)) d) (su c))
    (ht : ∀ c b, tab.lookup c = some b → PySem.W.exmOne K (.ref (ga K c)) cv = some b) : SimS K pv (fun σ cls d H => Wout cls d σ H) (tTryAs K cv i ts Wout tb) (tryS i tab f su) := fun H φ S F η σ D w g => by
  refine hb (wAs K cv i ts Wout D) H φ S F η σ D w ?_
  unfold tryS at g
  cases q : f η S with
  | nx η' S' => rw [q] at g; exact g
  | rt p S' => rw [q] at g; exact g
  | bk η' S' => rw [q] at g; exact g
  | ct η' S' => rw [q] at g; exact g
  | stuck => rw [q] at g; exact g
  | exc c fs η' S' =>
    rw [q] at g
    dsimp only at g
    intro φ' H' d σ' e' w' x'
    cases qt : tab.lookup c with
    | none => rw [qt] at g; exact (show False from g).elim
    | some b =>
      rw [qt] at g
      refine ⟨b, ht c b qt, fun eb a na => ?_, fun eb => ?_⟩
      · subst eb
        dsimp only at g
        split at g
        · rename_i hn
          split at g
          · rename_i hi
            have w2 : WS K (.ref a, d) H' φ' S' F (η'.set i (.pin fs)) (σ'.set i (some (.ref a))) := w'.put nofun nofun fun j gs e => by
              by_cases z : i = j
              · subst z
                rw [List.getElem?_set, if_pos rfl, if_pos hi] at e
                cases e
                exact ⟨by rw [List.getElem?_set, if_pos rfl, if_pos (by rw [w'.re.len]; exact hi)], x'⟩
              · rw [List.getElem?_set_ne z] at e
                exact (noPin_at hn e).elim
            refine hs a c d H' φ' S' F _ _ _ w2 ?_
            have ev : EvS H φ S η σ H' φ' S' (η'.set i (.pin fs)) (σ'.set i (some (.ref a))) := e'.trans (EvS.put nofun)
            have fin : ∀ {η3 : Sls} {S3 : AS} {φ3 : List Addr} {H3 : Hp} {σ3 : L2.St}, noPin (η3.set i .no) = true → WS K (.ref a, d) H3 φ3 S3 F η3 σ3 → WS K pv H3 φ3 S3 F (η3.set i .no) (σ3.set i none) := fun hn w3 => w3.put nofun nofun fun j gs e => (noPin_at hn e).elim
            cases r : su c (η'.set i (.pin fs)) S' with
            | nx η3 S3 =>
              rw [r] at g
              unfold cleanS at g
              dsimp only at g
              split at g
              · rename_i h3
                exact fun φ3 H3 σ3 e3 w3 => g φ3 H3 (σ3.set i none) ((ev.trans e3).trans (EvS.put nofun)) (fin h3 w3)
              · exact (show False from g).elim
            | bk η3 S3 =>
              rw [r] at g
              unfold cleanS at g
              dsimp only at g
              split at g
              · rename_i h3
                exact fun φ3 H3 σ3 e3 w3 => g φ3 H3 (σ3.set i none) ((ev.trans e3).trans (EvS.put nofun)) (fin h3 w3)
              · exact (show False from g).elim
            | ct η3 S3 =>
              rw [r] at g
              unfold cleanS at g
              dsimp only at g
              split at g
              · rename_i h3
                exact fun φ3 H3 σ3 e3 w3 => g φ3 H3 (σ3.set i none) ((ev.trans e3).trans (EvS.put nofun)) (fin h3 w3)
              · exact (show False from g).elim
            | rt p S3 =>
              rw [r] at g
              exact fun φ3 H3 v e3 w3 r3 => g φ3 H3 v (ev.trans e3) w3 r3
            | exc c' fs' η3 S3 => rw [r] at g; exact (show False from g).elim
            | stuck => rw [r] at g; exact (show False from g).elim
          · exact (show False from g).elim
        · exact (show False from g).elim
      · subst eb
        exact g φ' H' d σ' e' w' x'
end
/-! ### try .. except X .. except Y -/
abbrev HL := List (List (Str × Bool) × (Str → FS))
def pickH : HL → Str → List (Str × PV) → Sls → AS → RF
  | [], c, fs, η, S => .exc c fs η S
  | (tab, su) :: r, c, fs, η, S => match tab.lookup c with
    | some true => (match su c η S with
      | .exc _ _ _ _ => .stuck
      | r => r)
    | some false => pickH r c fs η S
    | none => .stuck
def tryM (l : HL) (f : FS) : FS := fun η S => match f η S with
  | .exc c fs η' S' => pickH l c fs η' S'
  | r => r
inductive SimHs (K : PySem.W.Frag) (pv : V × Option Addr) : List (Value × (Addr → Value → Option Addr → TS)) → HL → Prop
  | nil : SimHs K pv [] []
  | cons {cv : Value} {ts : Addr → Value → Option Addr → TS} {tab : List (Str × Bool)} {su : Str → FS} {l : List (Value × (Addr → Value → Option Addr → TS))} {r : HL} (hs : ∀ a c d, SimS K pv (fun _ _ _ _ => False) (ts a (.ref (ga K c)) d) (su c))
      (ht : ∀ c b, tab.lookup c = some b → PySem.W.exmOne K (.ref (ga K c)) cv = some b) (t : SimHs K pv l r) : SimHs K pv ((cv, ts) :: l) ((tab, su) :: r)
section
variable {K : PySem.W.Frag} {pv : V × Option Addr} {Wout : WX} {tb : WX → TS} {f : FS} {l : List (Value × (Addr → Value → Option Addr → TS))} {r : HL}
theorem pick_go (h : SimHs K pv l r) {D : Ends} {F : Addr → Prop} : ∀ {H : Hp} {φ : List Addr} {S : AS} {η : Sls} {σ : L2.St} {c : Str} {fs : List (Str × PV)} {d : Option Addr}, WS K pv H φ S F η σ → RX K H φ (uni (Lv φ S) (uni F (Own η σ))) fs d → GoS K pv (fun σ cls d H => Wout cls d σ H) F H φ S η σ (pickH r c fs η S) D → wMany K Wout D l (.ref (ga K c)) d σ H := by
  induction h with
  | nil => exact fun w x g => g _ _ _ _ Ev.refl w x
  | @cons cv ts tab su l r hs ht t ih =>
    intro H φ S η σ c fs d w x g
    unfold pickH at g
    cases qt : tab.lookup c with
    | none => rw [qt] at g; exact (show False from g).elim
    | some b =>
      rw [qt] at g
      refine ⟨b, ht c b qt, fun eb a na => ?_, fun eb => ?_⟩
      · subst eb
        dsimp only at g
        refine hs a c d H φ S F η σ D w ?_
        cases r3 : su c η S with
        | nx η3 S3 => rw [r3] at g; exact g
        | bk η3 S3 => rw [r3] at g; exact g
        | ct η3 S3 => rw [r3] at g; exact g
        | rt p S3 => rw [r3] at g; exact g
        | exc c' fs' η3 S3 => rw [r3] at g; exact (show False from g).elim
        | stuck => rw [r3] at g; exact (show False from g).elim
      · subst eb
        exact ih w x g
theorem ss_tryM (hb : ∀ W : WX, SimS K pv (fun σ cls d H => W cls d σ H) (tb W) f) (hh : SimHs K pv l r) : SimS K pv (fun σ cls d H => Wout cls d σ H) (tTryM K Wout l tb) (tryM r f) := fun H φ S F η σ D w g => by
  refine hb (wMany K Wout D l) H φ S F η σ D w ?_
  unfold tryM at g
  cases q : f η S with
  | nx η' S' => rw [q] at g; exact g
  | rt p S' => rw [q] at g; exact g
  | bk η' S' => rw [q] at g; exact g
  | ct η' S' => rw [q] at g; exact g
  | stuck => rw [q] at g; exact g
  | exc c fs η' S' =>
    rw [q] at g
    exact fun φ' H' d σ' e' w' x' => pick_go hh w' x' (GoS.step g e')
end
/-! ### what a suite asks of its error -/
def xisF (i : Nat) (r : Option Bool) : FE := fun η S => match η[i]? with
  | some (.pin _) => ofO (r.map .bl) S
  | _ => .stuck
def xfldF (i : Nat) (c : Str) (cs : List Str) (n : Str) : FE := fun η S => match η[i]? with
  | some (.pin fs) => if cs.contains c = true then ofO (fs.lookup n) S else .stuck
  | _ => .stuck
def rIsEu (K : PySem.W.Frag) (a : Addr) (cls : Value) (d : Option Addr) : List V → Hp → VK → Prop := fun xs H Q => ∃ D, cls = .ref D ∧ ((∃ dd fs, d = some dd ∧ H dd = some (.xd fs)) ∨ d = none) ∧ ExcC K D ∧ rIsE K D a xs H Q
theorem call_isEu {X : Cx} {K : PySem.W.Frag} {a : Addr} {oe : Obj} {cls : Value} {d : Option Addr} {pn : List (Addr × Obj)} (hz : Zc cls d oe) (hf : ∃ vs, oe.data = .fields vs) (hK : X.K = K := by rfl) : CallR (X.suite a ((a, oe) :: pn)) (.builtin "isinstance") (rIsEu K a cls d) := by
  subst hK
  rintro pins s σ H xs us Q I r ⟨D, rfl, h1, C, h2⟩
  rcases h1 with ⟨dd, fs, rfl, h1⟩ | rfl
  · exact Hk.call_isEd hz hf pins s σ H xs us Q I r ⟨D, dd, fs, rfl, rfl, h1, C, h2⟩
  · exact call_isE C hz hf pins s σ H xs us Q I r h2
section
variable {K : PySem.W.Frag} {a : Addr} {d : Option Addr} {E : XW} {i : Nat} {c n : Str}
theorem RX.dd {H : Hp} {φ : List Addr} {M : Addr → Prop} {fs : List (Str × PV)} {d : Option Addr} (x : RX K H φ M fs d) : (∃ dd gs, d = some dd ∧ H dd = some (.xd gs)) ∨ d = none := by
  rcases x with ⟨_, e⟩ | ⟨dd, gs, e, h, _⟩
  · exact .inr e
  · exact .inl ⟨dd, gs, e, h⟩
theorem se_xis {C : Str} {tab : List (Str × Bool)} (hr : ∀ c b, tab.lookup c = some b → ExcC K (ga K c) ∧ PySem.W.kitOne K (.ref (ga K c)) (.ref (ga K C)) = some b) : SimE K (.ref a, d) E (tCB (rIsEu K a (.ref (ga K c)) d) (tCons (tVar i) (tCons (tC (.ref (ga K C))) tNil))) (xisF i (tab.lookup c)) := fun H φ S F O η σ Q w hO re h => by
  unfold xisF at h
  split at h
  · rename_i fs e
    obtain ⟨e1, x⟩ := re.pin i fs e
    cases r : tab.lookup c with
    | none => rw [r] at h; exact (show False from h).elim
    | some b => rw [r] at h; exact ⟨_, e1, _, rfl, x.dd, (hr c b r).1, _, _, b, rfl, fun u r => by cases r; rfl, (hr c b r).2, h.ok w _ .bl⟩
  · exact h.elim
theorem RFs.look : ∀ {fs : List (Str × PV)} {gs : List (Str × V)} {H : Hp} {φ : List Addr} {M : Addr → Prop} {p : PV}, RFs K H φ M fs gs → fs.lookup n = some p → ∃ v, gs.lookup n = some v ∧ RV K H φ M p v
  | _, _, _, _, _, _, .nil, e => by simp at e
  | _, _, _, _, _, _, .cons (x := x) r t, e => by
    simp only [List.lookup] at e ⊢
    split at e
    · cases e; exact ⟨_, rfl, r⟩
    · exact RFs.look t e
def tXfs (K : PySem.W.Frag) (a : Addr) (cls : Value) (d : Option Addr) (cs : List Str) (n : Str) (te : TE) : TE := fun σ H Q => ∃ C, C ∈ cs ∧ tXf a cls d (ga K C) n te σ H Q
theorem fa_nil {P : Str → Prop} : ∀ C ∈ ([] : List Str), P C := fun _ h => by cases h
theorem fa_cons {P : Str → Prop} {c : Str} {cs : List Str} (h : P c) (t : ∀ C ∈ cs, P C) : ∀ C ∈ c :: cs, P C := fun C hC => by
  rcases List.mem_cons.mp hC with rfl | hC
  · exact h
  · exact t C hC
theorem pe_xfs {X : Cx} {K : PySem.W.Frag} {a : Addr} {oe : Obj} {cls : Value} {d : Option Addr} {pn : List (Addr × Obj)} {e : Expr} {te : TE} {pos : Pos} {n : Str} {cs : List Str} (T : ∀ C ∈ cs, XfC K (ga K C) ∧ PySem.W.findIn K (.ref (ga K C)) n = some none)
    (hz : Zc cls d oe) (hf : ∃ vs, oe.data = .fields vs) (he : PE (X.suite a ((a, oe) :: pn)) e te) (hK : X.K = K := by rfl) (hb : attributeBase e n X.env (eval e X.env) = eval e X.env := by rfl) : PE (X.suite a ((a, oe) :: pn)) (.Attribute e n pos) (tXfs K a cls d cs n te) := by
  subst hK
  exact ⟨fun pins s σ H Q I ⟨C, hC, h⟩ => (pe_xf (T C hC).1 (T C hC).2 hz hf he hb).run pins s σ H Q I h⟩
theorem se_xf {cs : List Str} : SimE K (.ref a, d) E (tXfs K a (.ref (ga K c)) d cs n (tVar i)) (xfldF i c cs n) := fun H φ S F O η σ Q w hO re h => by
  unfold xfldF at h
  split at h
  · rename_i fs e
    obtain ⟨e1, x⟩ := re.pin i fs e
    split at h
    · rename_i hc
      obtain ⟨p, e2, h2⟩ := ofO_go w h
      rcases x with ⟨rfl, _⟩ | ⟨dd, gs, e3, e4, rf, _⟩
      · cases e2
      · obtain ⟨v, e5, rv⟩ := rf.look e2
        exact ⟨c, by simpa using hc, _, e1, rfl, rfl, dd, gs, v, e3, e4, e5, h2 v rv⟩
    · exact h.elim
  · exact h.elim
end
/-! ### raise, further forms -/
section
variable {K : PySem.W.Frag} {pv : V × Option Addr} {c : Str} {W : WX}
/-- no arguments -/
theorem ss_raiseA {ta : TA} {fa : FA} {N n : Nat} {fx : FX} (s : SimA K pv (fun σ cls d H => W cls d σ H) ta fa) : SimS K pv (fun σ cls d H => W cls d σ H) (tRaise (Hk.tOwnErr (ga K c) (spX K c N n fx) ta) W) (raiseS c n (initF N n fx) fa) := ss_raise s
theorem ss_raise0 {N n : Nat} {fx : FX} : SimS K pv (fun σ cls d H => W cls d σ H) (tRaise (fun (_ : L2.St) (H : Hp) (Q : XK) => ∀ a, H a = none → spX K c N n fx [.ref a] (upd H a (exo a (ga K c) none)) (fun v H2 => v = .non ∧ ∃ (d : Addr) (fs : List (Str × V)), H2 a = some (exo a (ga K c) (some d)) ∧ H2 d = some (exd d fs) ∧ H d = none ∧ Q (.ref (ga K c)) (some d) (upd (del H2 a) d (.xd fs))) (fun _ _ _ => False)) W) (raiseS c n (initF N n fx) nilA) := fun H φ S F η σ D w g =>
  (ss_raise (c := c) (W := W) (N := N) (n := n) (fx := fx) sa_nil H φ S F η σ D w g).2
/-- a class without __init__, a text -/
def raiseT (c : Str) : FS := fun η S => .exc c [] η S
theorem ss_raiseT : SimS K pv (fun σ cls d H => W cls d σ H) (tRaise (fun (_ : L2.St) (H : Hp) (Q : XK) => Q (.ref (ga K c)) none H) W) (raiseT c) := fun H φ S F η σ D w g => g φ H none σ Ev.refl w (.inl ⟨rfl, rfl⟩)
end
end Fu

end
section
set_option Elab.async false
set_option linter.all false
set_option maxRecDepth 100000
set_option maxHeartbeats 4000000
/-! Small things around errors. -/
namespace Fu
open PySem PySem.Spec PyProof.Rows L2
open He (ga)
theorem lk_nil {P : Str → Bool → Prop} : ∀ (c : Str) (b : Bool), List.lookup c ([] : List (Str × Bool)) = some b → P c b := fun c b h => by simp at h
theorem lk_cons {P : Str → Bool → Prop} {x : Str} {v : Bool} {l : List (Str × Bool)} (h : P x v) (t : ∀ c b, l.lookup c = some b → P c b) : ∀ (c : Str) (b : Bool), List.lookup c ((x, v) :: l) = some b → P c b := fun c b e => by
  simp only [List.lookup] at e
  split at e
  · rename_i q
    cases e
    have : c = x := by simpa using q
    rw [this]; exact h
  · exact t c b e
/-- an expression that raises nothing, where errors are wished for -/
def pureF (f : FE) : FE := fun η S => pureR (f η S)
theorem se_pure {K : PySem.W.Frag} {pv : V × Option Addr} {E : XW} {t : TE} {f : FE} (s : SimE K pv (fun _ _ _ _ => False) t f) : SimE K pv E t (pureF f) := fun H φ S F O η σ Q w hO re h =>
  s H φ S F O η σ Q w hO re (pureR_go h)
theorem goH_zero {P : Program} {w : World} {K : PySem.W.Frag} {mg : Str → Option Value} {base : Heap} {CX : CXT} {k : Nat} {nm qual : Str} {st : Stmt} {ps : List Str} {sp : Sp} (g : mg nm = some (.ref (ga K nm)))
    (F : ∃ fd, FunD K nm qual (defArgs st) (defBody st) (defScope st) [] [] (ga K nm) fd)
    (hb : ∀ (kV doc pm : Value) (an : Option Addr) (cdv ct : Value) (us : List Value), us.length = ps.length → bindArgs (PySem.W.fnOf nm qual (defArgs st) (defBody st) (defScope st) .none kV doc pm an cdv ct) ⟨us, []⟩ = pure (ps.zip us))
    (len : ∀ vs H Q E, sp vs H Q E → vs.length = ps.length) (no : ∀ vs H Q E, sp vs H Q E → False) : Hk.GOkH P w K mg base CX k nm ps sp := by
  obtain ⟨fd, F⟩ := F
  exact ⟨g, fd, F.kp, F.bindsN hb, ⟨len, fun A outer s H args us vs Q E p _ _ _ _ _ _ h => (no vs H Q E h).elim⟩⟩
theorem roomH_u {k : Nat} {A : Around} (r : L2H.RoomH k A) : A.units + 64 < cLine := by have := r.un; omega
theorem roomH_u65 {k : Nat} {A : Around} (r : L2H.RoomH k A) : A.units + 65 < cLine := by have := r.un; omega
end Fu

end
section
set_option Elab.async false
set_option linter.all false
set_option maxRecDepth 100000
set_option maxHeartbeats 4000000
/-! Keyword-only parameters with defaults; *args beside them. -/
namespace Fu
open PySem PySem.Spec PyProof.Rows L2
open He (ga)
theorem cxUpN {P : Program} {w : World} : StX.CXUp (L2N.CX P w) := by
  rintro outer s H s2 H2 E e s' un kp ho ⟨a, B, H', cls, d, ea, fl, hok, ub, na, os, ag, he⟩
  refine ⟨a, B, H', cls, d, ea, fl, hok, ⟨fun b o q n hb => ub.keep b o (kp b o q) (un.free b o q n (by simp)) hb, fun b o q hb => ub.slot b o (kp b o q) hb, fun b o q n => ub.free b o (kp b o q) (un.free b o q n (by simp)),
    fun b o q hb => ub.there b o (kp b o q) hb, fun b xs q => ub.tups b xs (un.tups b xs q), fun b o xs q => ub.frzs b o xs (un.frzs b o xs q), fun b ps q => ?_⟩, na, os.trans ho, ag, he⟩
  obtain ⟨m1, e1⟩ := un.tbls b ps q
  obtain ⟨m2, e2⟩ := ub.tbls b _ e1
  exact ⟨m1 ++ m2, by rw [e2, Array.append_assoc]⟩
/-- t looks the names up in the dict at D, one behind another, and goes on by r -/
def KwTo {α : Type} (D : Addr) : List (Str × Value) → Sem α → Sem α → Prop
  | [], t, r => t = r
  | q :: l, t, r => ∃ (β γ : Type) (k1 : Option Value → Sem β) (k2 : β → Sem γ) (k3 : γ → Sem α) (a : β), t = ((nsGet D q.1 >>= k1) >>= k2) >>= k3 ∧ k1 (some q.2) = pure a ∧ KwTo D l (k2 a >>= k3) r
theorem KwTo.run {α : Type} {K : PySem.W.Frag} {M : Model} {A : Around} {Q : α → Shared → Prop} {E : Value → Shared → Prop} {s : Shared} {D : Addr} (X : K.In s.heap) : ∀ {l : List (Str × Value)} {t r : Sem α}, (∀ q ∈ l, PySem.W.nsIn K D q.1 = some (some q.2)) → KwTo D l t r → wpAny M A r Q E s → wpAny M A t Q E s
  | [], _, _, _, e, h => by
    have e : _ = _ := e
    rw [e]; exact h
  | q :: l, t, r, hl, e, h => by
    obtain ⟨β, γ, k1, k2, k3, a, e1, e2, e3⟩ := e
    have l1 : PySem.W.Looks M s.heap (nsGet D q.1 >>= k1) a := (PySem.W.looks_nsIn X (hl q (List.mem_cons_self ..))).andThen (PySem.W.Looks.of_pure e2)
    rw [e1, bind_assoc]
    exact wpAny_bind (l1.here (KwTo.run X (fun p hp => hl p (List.mem_cons_of_mem _ hp)) e3 h))
/-- an __init__ with *args (nothing left over) and keyword-only parameters -/
structure KSOk (P : Program) (w : World) (K : PySem.W.Frag) (mg : Str → Option Value) (base : Heap) (CX : CXT) (k : Nat) (a : Addr) (ks : List Str) (gV : List V → List V → List V) (sp : Sp) : Prop where
  run : ∀ (A : Around) (outer : List Env) (s : Shared) (H : Hp) (u : Value) (x : V) (ws : List Value) (zs : List V) (Q : VK) (E : XK), Room k A → Env0 P w K mg base A outer s H → RelV x u → Vals zs ws → ws.length = ks.length → sp (gV [x] zs) H Q E →
    codeAny (model P w) A (.call (.ref a) ⟨[u], ks.zip ws⟩) (CR CX outer P w H s Q E) s
def spStar (sp : Sp) : Sp := fun vs H Q E => ∀ p, H p = none → sp (vs ++ [V.ref p]) (upd H p (.tup [])) Q E
theorem okStar {P : Program} {w : World} {K : PySem.W.Frag} {mg : Str → Option Value} {base : Heap} {CX : CXT} {k : Nat} {nm qual : Str} {params : Arguments} {body : List Stmt} {scope : Scope} {kws : List (Str × V)} {f : Addr} {fd : FuncData} {N ps : List Str} {pn : Str} {sp : Sp} (ks : List Str) (ms : List (Str × V)) (g : {α : Type} → List α → List α → List α → List α)
    (F : FunD K nm qual params body scope [] kws f fd) (S : FnScope N (ps ++ [pn]) scope) (hk : kws ≠ []) (hms : ∀ q ∈ ms, q ∈ kws) (hCX : StX.CXUp CX)
    (hrel : ∀ {vs mz zs : List V} {us mv ws : List Value}, Vals vs us → Vals mz mv → Vals zs ws → Vals (g vs mz zs) (g us mv ws))
    (hlen : ∀ (u : Value) (mv ws : List Value), mv.length = ms.length → ws.length = ks.length → (g [u] mv ws).length = ps.length)
    (h : ∀ (D : Addr) (doc pm : Value) (an : Option Addr) (cdv ct : Value) (u : Value) (mv ws : List Value), mv.length = ms.length → ws.length = ks.length →
      KwTo D ((ms.map (·.1)).zip mv) (bindArgs (PySem.W.fnOf nm qual params body scope .none (.ref D) doc pm an cdv ct) ⟨[u], ks.zip ws⟩) (newTuple [] >>= fun t => pure (ps.zip (g [u] mv ws) ++ [(pn, t)])))
    (hbody : ∀ (cdv : Value) (A : Around) (outer : List Env) (s : Shared) (H : Hp) (vs : List V) (Q : VK) (E : XK), Room k (A.deeper (envOfC qual scope s.heap.objs.size f cdv)) → sp vs H Q E →
      ∃ t, PSs (cxOf CX P w K mg base N qual scope f cdv A outer s H E) body t ∧ t { nx := fun _ H' => Q .non H', rt := Q } (L2.start N vs) H) :
    KSOk P w K mg base CX (k + 1) f ks (fun vs zs => g vs (ms.map (·.2)) zs) (spStar sp) := by
  obtain ⟨oc, od, dV, kV, doc, pm, an, cdv, ct, osl, rfl, lk, hcd, hD, hK⟩ := F.ex
  rcases hD with ⟨_, rfl⟩ | ⟨e, _⟩
  · rcases hK with e | ⟨D, rfl, hq⟩
    · exact absurd e hk
    · obtain ⟨mv, hl, rk, hks⟩ := kwd_vals (ms := ms) fun q hm => hq q (hms q hm)
      refine ⟨fun A outer s H u x ws zs Q E hr e0 ru rz hw hsp => ?_⟩
      have hn : H s.heap.objs.size = Option.none := e0.hok.fresh (Nat.le_refl _)
      have KX : K.In s.heap := e0.mod.kin.keeps fun b o e => (e0.bs b o e).1
      refine StX.run_bnd (ps := ps ++ [pn]) lk hcd S hr e0 (G := fun xs H2 => ∃ p, H p = Option.none ∧ xs = g [x] (ms.map (·.2)) zs ++ [V.ref p] ∧ H2 = upd H p (.tup [])) (fun A' Ex Q' hh => ?_) fun s2 H2 xs ⟨p, hp, ex, eH⟩ hr' => ?_
      · refine KwTo.run KX hks (h D doc pm an cdv ct u mv ws hl hw) (wpAny_bind (wpAny_newTuple (wpAny_pure ?_) (by simp)))
        have new : ObjOk P w (upd H s.heap.objs.size (.tup [])) (s.heap.push ({ cls := .type "tuple", data := .seq ([] : List Value).toArray } : Obj)) s.heap.objs.size (.tup []) := ⟨by simp, [], .nil, ⟨_, Heap.get?_push_size _ rfl, rfl, _, rfl⟩⟩
        have un := StX.un_laid (fs := frs outer) (s := s) (o := ({ cls := .type "tuple", data := .seq ([] : List Value).toArray } : Obj)) (u := .tup []) hn
        have r1 : Vals (g [x] (ms.map (·.2)) zs) (g [u] mv ws) := hrel (.cons ru .nil) rk rz
        have z := hh _ _ (g [x] (ms.map (·.2)) zs ++ [V.ref s.heap.objs.size]) (g [u] mv ws ++ [Value.ref s.heap.objs.size]) (StX.env0_laid e0 new) un rfl (fun e s' => hCX outer s H _ _ E e s' un (fun b o q => Heap.get?_push_of_some _ q) rfl) (r1.append (.cons rfl .nil))
          (by rw [List.length_append, List.length_append, r1.length, hlen u mv ws hl hw] <;> rfl) ⟨_, hn, rfl, rfl⟩
        rw [List.zip_append (hlen u mv ws hl hw).symm] at z
        exact z
      · subst ex eH
        exact hbody cdv A outer s2 _ _ Q E hr' (hsp p hp)
  · exact absurd rfl e
section
variable {X : Cx} {CX : CXT} {k : Nat} {f C : Addr} {ks : List Str} {sp : Sp} {E : XK} {x : Str} {p pos : Pos} {kws : List Keyword} {tk : TA} {gV : List V → List V → List V}
theorem pe_mkKS (M : Mk X.K C f) (G : KSOk X.prog X.w X.K X.mg X.base CX k f ks gV sp) (hm : X.mg x = some (.ref C)) (hr : Room (k + 1) X.A) (hx : Passes CX X E) (hkw : PK X kws tk) (hg : Gl X x := by rfl)
    (hall : (backToKw pos (keywordEach kws X.env)).all (·.1.isSome) = true := by rfl) (hks : (backToKw pos (keywordEach kws X.env)).filterMap (·.1) = ks := by rfl) (hdb : (x == ("__debug__" : Str)) = false := by decide)
    (hpl : ((backTo pos (starEach [] X.env)).any (·.1) || (backToKw pos (keywordEach kws X.env)).any (·.1.isNone)) = false := by rfl) :
    PE X (.Call (.Name x p) [] kws pos) (tMakeK C 0 ks.length sp gV E tNil tk) := by
  refine ⟨fun pins s σ H Q I h => ?_⟩
  refine wpAny_Call_Name_kw (ld_glob I hg hm ?_ hdb)
  refine PySem.W.callWith_KW0 (h₀ := X.base) I.ok.mod.kin M.kp hall ?_ hpl
  refine thn (hkw.run pos pins s σ H _ I h) fun ws s2 ⟨zs, H2, I2, rz, l1, l2, q2⟩ => ⟨I2.kIn, ?_⟩
  rw [hks]
  have hq := q2 (s2.heap.objs.size + 1) s2.heap.objs.size (I2.hok.fresh (Nat.le_succ _)) (I2.hok.fresh (Nat.le_refl _)) (Nat.ne_of_lt (Nat.lt_succ_self _))
  have I3 := Inv.made (C := C) I2
  refine wpAny_call (make_map (f := f) I2.kIn M.makes M.init (beq_iff_eq.mp M.fn) (codeAny_mono (G.run _ X.stack _ _ (Value.ref (s2.heap.objs.size + 1)) (V.ref (s2.heap.objs.size + 1)) ws zs _ E (hr.make C [] (ks.zip ws)) (I3.env0.make C [] (ks.zip ws)) rfl rz (rz.length.symm.trans l2) hq) fun r s' hq' => ?_))
  cases r with
  | error e => exact hx pins σ _ _ e s' I3 hq'
  | ok fl =>
    cases fl with
    | ret u =>
      obtain ⟨v, H', I4, rv, ev, q3⟩ := I3.after hq'
      subst ev
      exact ⟨rv, ⟨V.ref (s2.heap.objs.size + 1), H', I4, rfl, q3⟩⟩
    | next => exact False.elim hq'
    | brk => exact False.elim hq'
    | cont => exact False.elim hq'
end
/-! ### their functions -/
section
variable {K : PySem.W.Frag} {pv : V × Option Addr} {F O : Addr → Prop} {H H' : Hp} {φ φ' : List Addr} {S S' : AS} {M : Addr → Prop}
/-- constants -/
def cv : PV → Option V
  | .non => some .non
  | .bl b => some (.bl b)
  | .int i => some (.int i)
  | .str s => some (.str s)
  | _ => none
theorem rvs_cv : ∀ {ps : List PV} {vs : List V}, ps.map cv = vs.map some → RVs K H φ M ps vs
  | [], [], _ => .nil
  | [], _ :: _, h => by simp at h
  | _ :: _, [], h => by simp at h
  | p :: ps, v :: vs, h => by
    simp only [List.map_cons, List.cons.injEq] at h
    refine .cons ?_ (rvs_cv h.2)
    have h1 := h.1
    cases p <;> simp only [cv, Option.some.injEq, reduceCtorEq] at h1 <;> subst h1 <;> constructor
/-- C(k = v, ..): g puts self, the defaults and the keywords' values in order; st: an empty tuple behind -/
def mkKF (c : Str) (n : Nat) (f : Fn) (st : Bool) (ms : List PV) (g : List PV → List PV → List PV → List PV) (a : FA) : FE := fun η S => (a η S).bind fun ps S =>
  if (g [.ref S.length] ms ps ++ if st = true then [PV.tup []] else []).length = n then match f (g [.ref S.length] ms ps ++ if st = true then [PV.tup []] else []) (S ++ [some (.ins c [])]) with
    | .ok .non S' => .ok (.ref S.length) S'
    | .exc d fs S' => .exc d fs S'
    | _ => .stuck
  else .stuck
/-- how g goes with values -/
def Nat3 (g : {α : Type} → List α → List α → List α → List α) : Prop := ∀ {K : PySem.W.Frag} {H : Hp} {φ : List Addr} {M : Addr → Prop} {a b c : List PV} {x y z : List V}, RVs K H φ M a x → RVs K H φ M b y → RVs K H φ M c z → RVs K H φ M (g a b c) (g x y z)
theorem se_mkKD {c : Str} {n m : Nat} {f : Fn} {t : TA} {fa : FA} {X : XK} {ms : List PV} {mv : List V} (g : {α : Type} → List α → List α → List α → List α) (hg : Nat3 g) (hm : ms.map cv = mv.map some) (a : SimA K pv (fun _ => X) t fa)
    (hl : ∀ ps : List PV, (g [.non] ms ps).length = n → ps.length = m) (hg1 : ∀ (p : PV) (ps : List PV), (g [p] ms ps).length = (g [.non] ms ps).length) : SimE K pv (fun _ => X) (tMakeK (ga K c) 0 m (spF K n f) (fun vs zs => g vs mv zs) X tNil t) (mkKF c n f false ms g fa) := fun H φ S F O η σ Q w hO re h => by
  show t σ H _
  unfold mkKF at h
  refine a H φ S F O η σ _ w hO re (h.bind.imp fun ps φ1 S1 H1 e1 w1 h1 vs rs => ?_)
  simp only [Bool.false_eq_true, if_false, List.append_nil] at h1
  split at h1
  · rename_i hl1
    have hpl : ps.length = m := hl ps (by rw [← hg1]; exact hl1)
    refine ⟨rfl, by rw [rs.len]; exact hpl, fun x dx hx hd ne => ?_⟩
    obtain ⟨w2, e2⟩ := made (c := c) w1 hx hd ne
    have rx : ∀ {φ' : List Addr}, (∀ (k : Nat) a, (φ1 ++ [x])[k]? = some a → φ'[k]? = some a) → φ'[S1.length]? = some x := fun hp => hp _ _ (by rw [List.getElem?_append_right (by rw [w1.len]; exact Nat.le_refl _)]; simp [w1.len])
    refine ⟨φ1 ++ [x], S1 ++ [some (.ins c [])], F, g [.ref S1.length] ms ps, hl1, w2, hg (.cons (.ref (rx fun _ _ z => z)) .nil) (rvs_cv hm) (e2.rvs rs), ?_⟩
    cases q : f (g [.ref S1.length] ms ps) (S1 ++ [some (.ins c [])]) with
    | ok a S' =>
      rw [q] at h1
      cases a with
      | non =>
        intro φ' H' e' w' v rv
        cases rv
        exact ⟨rfl, h1 φ' H' (e2.trans e') w' _ (.ref (rx e'.pre))⟩
      | _ => exact (show False from h1).elim
    | exc d fs S' =>
      rw [q] at h1
      exact fun φ' H' d e' w' x => h1 φ' H' d (e2.trans e') w' x
    | stuck => rw [q] at h1; exact (show False from h1).elim
  · exact h1.elim
theorem se_mkKS {c : Str} {n m : Nat} {f : Fn} {t : TA} {fa : FA} {X : XK} {ms : List PV} {mv : List V} (g : {α : Type} → List α → List α → List α → List α) (hg : Nat3 g) (hm : ms.map cv = mv.map some) (a : SimA K pv (fun _ => X) t fa)
    (hl : ∀ ps : List PV, (g [.non] ms ps ++ [PV.non]).length = n → ps.length = m) (hg1 : ∀ (p : PV) (ps : List PV), (g [p] ms ps).length = (g [.non] ms ps).length) : SimE K pv (fun _ => X) (tMakeK (ga K c) 0 m (spStar (spF K n f)) (fun vs zs => g vs mv zs) X tNil t) (mkKF c n f true ms g fa) := fun H φ S F O η σ Q w hO re h => by
  show t σ H _
  unfold mkKF at h
  refine a H φ S F O η σ _ w hO re (h.bind.imp fun ps φ1 S1 H1 e1 w1 h1 vs rs => ?_)
  simp only [if_true] at h1
  split at h1
  · rename_i hl1
    have hpl : ps.length = m := hl ps (by rw [List.length_append, ← hg1 (.ref S1.length)]; rw [List.length_append] at hl1; exact hl1)
    refine ⟨rfl, by rw [rs.len]; exact hpl, fun x dx hx hd ne q hq => ?_⟩
    obtain ⟨w2, e2⟩ := made (c := c) w1 hx hd ne
    have w3 := w2.new (o := .tup []) hq
    have e3 : Ev (upd (upd H1 dx (.own x)) x (.ins (ga K c) dx [])) (φ1 ++ [x]) (Lv (φ1 ++ [x]) (S1 ++ [some (.ins c [])])) (upd (upd (upd H1 dx (.own x)) x (.ins (ga K c) dx [])) q (.tup [])) (φ1 ++ [x]) (Lv (φ1 ++ [x]) (S1 ++ [some (.ins c [])])) := ev_new hq
    have rx : ∀ {φ' : List Addr}, (∀ (k : Nat) a, (φ1 ++ [x])[k]? = some a → φ'[k]? = some a) → φ'[S1.length]? = some x := fun hp => hp _ _ (by rw [List.getElem?_append_right (by rw [w1.len]; exact Nat.le_refl _)]; simp [w1.len])
    refine ⟨φ1 ++ [x], S1 ++ [some (.ins c [])], F, g [.ref S1.length] ms ps ++ [.tup []], hl1, w3, (hg (.cons (.ref (rx fun _ _ z => z)) .nil) (rvs_cv hm) ((e2.trans e3).rvs rs)).append (.cons (.newTup w2 hq .nil) .nil), ?_⟩
    cases q : f (g [.ref S1.length] ms ps ++ [.tup []]) (S1 ++ [some (.ins c [])]) with
    | ok a S' =>
      rw [q] at h1
      cases a with
      | non =>
        intro φ' H' e' w' v rv
        cases rv
        exact ⟨rfl, h1 φ' H' ((e2.trans e3).trans e') w' _ (.ref (rx e'.pre))⟩
      | _ => exact (show False from h1).elim
    | exc d fs S' =>
      rw [q] at h1
      exact fun φ' H' d e' w' x => h1 φ' H' d ((e2.trans e3).trans e') w' x
    | stuck => rw [q] at h1; exact (show False from h1).elim
  · exact h1.elim
/-- f(e, .., k = v, ..) of a def -/
def callKF (n np : Nat) (f : Fn) (ms : List PV) (g : List PV → List PV → List PV → List PV) (a b : FA) : FE := fun η S => (a η S).bind fun ps S => (b η S).bind fun qs S => if ps.length = np ∧ (g ps ms qs).length = n then f (g ps ms qs) S else .stuck
theorem se_callKD {n np m : Nat} {f : Fn} {t tk : TA} {fa fb : FA} {X : XK} {ms : List PV} {mv : List V} (g : {α : Type} → List α → List α → List α → List α) (hg : Nat3 g) (hm : ms.map cv = mv.map some) (a : SimA K pv (fun _ => X) t fa) (b : SimA K pv (fun _ => X) tk fb)
    (hl : ∀ ps qs : List PV, ps.length = np → (g ps ms qs).length = n → qs.length = m) : SimE K pv (fun _ => X) (L2.tCallN np m (spF K n f) (fun vs zs => g vs mv zs) X t tk) (callKF n np f ms g fa fb) := fun H φ S F O η σ Q w hO re h => by
  unfold callKF at h
  refine a H φ S F O η σ _ w hO re (h.bind.imp fun ps φ1 S1 H1 e1 w1 h1 vs rs => ?_)
  refine b H1 φ1 S1 F O η σ _ w1 hO (re.mono w hO e1) (h1.bind.imp fun qs φ2 S2 H2 e2 w2 h2 zs rz => ?_)
  split at h2
  · rename_i hh
    exact ⟨by rw [rs.len]; exact hh.1, by rw [rz.len]; exact hl ps qs hh.1 hh.2, φ2, S2, F, g ps ms qs, hh.2, w2, hg (e2.rvs rs) (rvs_cv hm) rz, h2⟩
  · exact h2.elim
end
end Fu
namespace Fu
open PySem PySem.Spec PyProof.Rows L2
theorem kbindsN {K : PySem.W.Frag} {x qual : Str} {params : Arguments} {body : List Stmt} {scope : Scope} {f : Addr} {fd : FuncData} {ps : List Str} (F : FunD K x qual params body scope [] [] f fd) (n : Nat) (ks : List Str) (g : List Value → List Value → List Value) (gV : List V → List V → List V)
    (hrel : ∀ {vs zs : List V} {us ws : List Value}, Vals vs us → Vals zs ws → Vals (gV vs zs) (g us ws))
    (h : ∀ (kV doc pm : Value) (an : Option Addr) (cdv ct : Value) (us ws : List Value), us.length = n → ws.length = ks.length → bindArgs (PySem.W.fnOf x qual params body scope .none kV doc pm an cdv ct) ⟨us, ks.zip ws⟩ = pure (ps.zip (g us ws))) :
    KBn K fd ps n ks g gV := by
  obtain ⟨oc, od, dV, kV, doc, pm, an, cdv, ct, osl, rfl, lk, hcd, hD, hK⟩ := F.ex
  rcases hD with ⟨_, rfl⟩ | ⟨e, _⟩
  · exact ⟨fun s us ws X l1 l2 => BindsTo.of_looks fun M => PySem.W.Looks.of_pure (h kV doc pm an cdv ct us ws l1 l2), fun r1 r2 => hrel r1 r2⟩
  · exact absurd rfl e
end Fu

end
section
set_option Elab.async false
set_option linter.all false
set_option maxRecDepth 100000
set_option maxHeartbeats 4000000
/-! insert; max, min of two; fields of several classes; constants of a class; len(set(..)). -/
namespace Fu
open PySem PySem.Spec PyProof.Rows L2
open He (ga)
def insL (xs : List PV) (i : Int) (p : PV) : List PV := xs.take i.toNat ++ [p] ++ xs.drop i.toNat
def rIns : V → List V → Hp → VK → Prop := fun x vs H Q => ∃ (l : Addr) (xs : List V) (i : Int) (y : V), x = .ref l ∧ vs = [.int i, y] ∧ H l = some (.lst xs) ∧ xs.length < sizeLine ∧ 0 ≤ i ∧ i < 2 ^ 63 ∧
    Q .non (upd H l (.lst (xs.take i.toNat ++ [y] ++ xs.drop i.toNat)))
theorem mtr_insert {X : Cx} : MtR X "list.insert" rIns := mt_insert
section
variable {K : PySem.W.Frag} {pv : V × Option Addr} {E : XW} {F O : Addr → Prop} {H H' H1 H3 : Hp} {φ φ' φ1 : List Addr} {S S' S1 : AS} {M M' : Addr → Prop} {η : Sls} {σ : L2.St}
theorem RVs.ins {xs : List PV} {us : List V} {p : PV} {v : V} (r : RVs K H φ M xs us) (rv : RV K H φ M p v) (i : Int) : RVs K H φ M (insL xs i p) (us.take i.toNat ++ [v] ++ us.drop i.toNat) :=
  ((r.take _).append (.cons rv .nil)).append (r.drop _)
/-- xs.insert(i, e), xs a slot's own list -/
def ownIns (i : Nat) (fi fe : FE) : FS := fun η S => match η[i]? with
  | some (.own xs) => lift (fi η S) η fun q S => lift (fe η S) η fun p S => match q with
    | .int k => if xs.length < 1000000 ∧ 0 ≤ k ∧ k ≤ 1000000 then .nx (η.set i (.own (insL xs k p))) S else .stuck
    | _ => .stuck
  | _ => .stuck
theorem ss_ownIns {i : Nat} {ti te : TE} {fi fe : FE} (b : SimE K pv E ti fi) (a : SimE K pv E te fe) : SimS K pv E (tDrop (tBM K "list" rIns (tVar i) (tCons ti (tCons te tNil)))) (ownIns i fi fe) := fun H φ S F η σ D w h => by
  unfold ownIns at h
  split at h
  · rename_i xs e
    obtain ⟨ad, us, e1, e2, e3, e4⟩ := w.re.own i xs e
    refine ⟨_, e1, .inl ⟨rfl, us, .inl (.inl e2)⟩, ?_⟩
    refine b H φ S _ _ η σ _ w.wf (fun _ z => .inr z) w.re ((GoS.lift w h).imp fun q φ1 S1 H1 ev w1 h1 y ry => ?_)
    obtain ⟨h1, ws⟩ := h1
    refine a H1 φ1 S1 _ _ η σ _ ws.wf (fun _ z => .inr z) ws.re ((GoS.lift ws h1).imp fun p φ2 S2 H2 ev2 w2 h2 v rv => ?_)
    obtain ⟨h2, ws2⟩ := h2
    split at h2
    · rename_i k
      split at h2
      · rename_i hl
        cases ry
        obtain ⟨ad', us', f1, f2, f3, _⟩ := ws2.re.own i _ e
        rw [e1] at f1
        cases f1
        obtain ⟨ws3, ev3⟩ := ws2.own (ys := insL xs k p) e e1 f2 (f3.ins rv k)
        have h63 : k < 2 ^ 63 := by have := hl.2.2; omega
        exact ⟨ad, us', k, v, rfl, rfl, f2, by rw [f3.len, sizeLine_eq]; omega, hl.2.1, h63, h2 φ2 _ σ ev3 ws3⟩
      · exact (show False from h2).elim
    · exact (show False from h2).elim
  · exact (show False from h).elim
def insG : PV → List PV → AS → R PV := fun p ps S => match p, ps with
  | .ref n, [.int k, q] => match S[n]? with
    | some (some (.lst xs)) => if xs.length < 1000000 ∧ 0 ≤ k ∧ k ≤ 1000000 then .ok .non (S.set n (some (.lst (insL xs k q)))) else .stuck
    | _ => .stuck
  | _, _ => .stuck
theorem sm_ins : SimM K rIns insG := fun H φ S F O p x ps xs Q w hO rx rs h => by
  unfold insG at h
  split at h
  · split at h
    · rename_i n k q _ ys e0
      split at h
      · rename_i hl
        cases rx with
        | ref ha =>
          obtain ⟨vs, hv, rv⟩ := w.lst e0 ha
          cases rs with
          | cons r rs =>
            cases rs with
            | cons r2 rs =>
              cases rs
              cases r
              obtain ⟨w3, e3⟩ := w.put (o' := .lst (insL ys k q)) e0 ha (.lst (rv.ins r2 k))
              have h63 : k < 2 ^ 63 := by have := hl.2.2; omega
              exact ⟨_, vs, k, _, rfl, rfl, hv, by rw [rv.len, sizeLine_eq]; omega, hl.2.1, h63, h φ _ e3 w3 _ .non⟩
      · exact h.elim
    · exact h.elim
  · exact h.elim
/-! ### max, min -/
def m2G (c : Int → Int → Bool) : List PV → AS → R PV := fun ps S => match ps with
  | [.int i, .int j] => .ok (.int (if c i j = true then j else i)) S
  | _ => .stuck
abbrev maxG := m2G fun i j => decide (j > i)
abbrev minG := m2G fun i j => decide (j < i)
theorem sc_max2 : SimC K (fun xs H Q => ∃ i j, xs = [.int i, .int j] ∧ Q (.int (if j > i then j else i)) H) maxG := fun H φ S F O ps xs Q w hO rs h => by
  unfold maxG m2G at h
  split at h
  · rename_i i j
    obtain ⟨x, y, rfl, r1, r2⟩ := rs.two
    obtain rfl := r1.int
    obtain rfl := r2.int
    refine ⟨i, j, rfl, ?_⟩
    have := h.ok w _ .int
    simpa using this
  · exact h.elim
theorem sc_min2 : SimC K (fun xs H Q => ∃ i j, xs = [.int i, .int j] ∧ Q (.int (if j < i then j else i)) H) minG := fun H φ S F O ps xs Q w hO rs h => by
  unfold minG m2G at h
  split at h
  · rename_i i j
    obtain ⟨x, y, rfl, r1, r2⟩ := rs.two
    obtain rfl := r1.int
    obtain rfl := r2.int
    refine ⟨i, j, rfl, ?_⟩
    have := h.ok w _ .int
    simpa using this
  · exact h.elim
/-! ### a field of one of several classes -/
def fldsF (cs : List Str) (f : Str) (a : FE) : FE := fun η S => (a η S).bind fun p S => match p with
  | .ref n => match S[n]? with
    | some (some (.ins d fs)) => if cs.contains d = true then ofO (fs.lookup f) S else .stuck
    | _ => .stuck
  | _ => .stuck
theorem se_flds {cs : List Str} {f : Str} {ta : TE} {fa : FE} (hc : ∀ c ∈ cs, Cls K (ga K c) ∧ NoAttr K (ga K c) f) (a : SimE K pv E ta fa) : SimE K pv E (tFld K ta f) (fldsF cs f fa) := fun H φ S F O η σ Q w hO re h => by
  refine a H φ S F O η σ _ w hO re (h.bind.imp fun p φ1 S1 H1 e1 w1 h1 x rx => ?_)
  split at h1
  · split at h1
    · rename_i n d fs e0
      split at h1
      · rename_i hd
        cases rx with
        | ref ha =>
          obtain ⟨dx, gs, h2, r⟩ := w1.ins e0 ha
          obtain ⟨q, e, k⟩ := ofO_go w1 h1
          obtain ⟨v, ev, rv⟩ := r.get e
          obtain ⟨c1, c2⟩ := hc d (by simpa using hd)
          exact ⟨_, _, dx, gs, v, rfl, h2, c1, c2, ev, k v rv⟩
      · exact h1.elim
    · exact h1.elim
  · exact h1.elim
/-! ### a constant of a class -/
theorem se_cval {c f : Str} {v : V} {p : PV} (hr : Hk.readB K c = true) (hv : ∃ u, ClX.CVal K (ga K c) (.type "type") f v u) (hp : cv p = some v) : SimE K pv E (ClX.tCVal K (tC (.ref (ga K c))) f) (cF p) := fun H φ S F O η σ Q w hO re h => by
  obtain ⟨u, hv⟩ := hv
  refine ⟨_, _, v, u, rfl, Hk.read_ok hr, hv, h.ok w _ ?_⟩
  cases p <;> simp only [cv, Option.some.injEq, reduceCtorEq] at hp <;> subst hp <;> constructor
/-! ### len(set(xs)), nothing or one text there -/
def lenSetG : PV → AS → R PV := fun p S => match litems p S with
  | some [] => .ok (.int 0) S
  | some [.str _] => .ok (.int 1) S
  | _ => .stuck
theorem se_lenSet {ta : TE} {fa : FE} (a : SimB K pv E ta fa) : SimE K pv E (tLenSet K ta) (unF lenSetG fa) := fun H φ S F O η σ Q w hO re h => by
  refine a H φ S F O η σ _ w hO re (h.bind.imp fun p φ1 S1 H1 e1 w1 h1 x rx => ?_)
  have h2 := pureR_go h1
  unfold lenSetG at h2
  split at h2
  · rename_i e
    obtain ⟨ad, vs, rfl, hl, rs⟩ := litems_ok w1 rx e
    cases rs
    exact ⟨ad, [], rfl, .inl hl, by simp, h2.ok w1 _ .int⟩
  · rename_i z e
    obtain ⟨ad, vs, rfl, hl, rs⟩ := litems_ok w1 rx e
    cases rs with
    | cons r rs =>
      cases rs
      cases r
      exact ⟨ad, [z], rfl, .inl hl, by simp, h2.ok w1 _ .int⟩
  · exact h2.elim
end
end Fu

end
section
set_option Elab.async false
set_option linter.all false
set_option maxRecDepth 100000
set_option maxHeartbeats 4000000
/-! op= of numbers: names, fields. -/
namespace Fu
open PySem PySem.Spec PyProof.Rows L2
open He (ga)
section
variable {K : PySem.W.Frag} {pv : V × Option Addr} {E : XW}
/-- x op= e, numbers -/
def augS (i : Nat) (g : Int → Int → Int) (a : FE) : FS := fun η S => match η[i]? with
  | some (.val (.int m)) => lift (a η S) η fun p S => match p with
    | .int n => nameG i (.int (g m n)) η S
    | _ => .stuck
  | _ => .stuck
theorem ss_aug {i : Nat} {g : Int → Int → Int} {te : TE} {f : FE} (a : SimE K pv E te f) : SimS K pv E (tAug i te (ipI g)) (augS i g f) := fun H φ S F η σ D w h => by
  unfold augS at h
  split at h
  · rename_i m e
    obtain ⟨x, e1, rx⟩ := w.re.val i _ e
    cases rx
    refine ⟨_, e1, ?_⟩
    refine a H φ S _ _ η σ _ w.wf (fun _ z => .inr z) w.re ((GoS.lift w h).imp fun p φ1 S1 H1 ev w1 h1 y ry => ?_)
    obtain ⟨h1, ws⟩ := h1
    split at h1
    · cases ry
      exact ⟨_, _, rfl, rfl, h1 φ1 H1 _ EvS.set (ws.set .int)⟩
    · exact h1.elim
  · exact h.elim
/-- o.f op= e, numbers -/
def fldAugS (c f : Str) (g : Int → Int → Int) (o a : FE) : FS := fun η S => lift (o η S) η fun q S => match q with
  | .ref n => match S[n]? with
    | some (some (.ins d fs)) => if d = c then match fs.lookup f with
      | some (.int i) => lift (a η S) η fun p S => match p with
        | .int j => match S[n]? with
          | some (some (.ins d' fs')) => if d' = c ∧ fs'.length < 1000 then .nx η (S.set n (some (.ins c (putP f (.int (g i j)) fs')))) else .stuck
          | _ => .stuck
        | _ => .stuck
      | _ => .stuck
      else .stuck
    | _ => .stuck
  | _ => .stuck
theorem ss_fldAug {c f : Str} {g : Int → Int → Int} {rd : V → V → Hp → VK → Prop} (hrd : ∀ i j H Q, Q (.int (g i j)) H → rd (.int i) (.int j) H Q) {ta tv : TE} {fo fa : FE} (hc : Cls K (ga K c)) (hn : NoAttr K (ga K c) f) (o : SimE K pv E ta fo) (a : SimE K pv E tv fa) :
    SimS K pv E (sFldAug K ta tv rd f) (fldAugS c f g fo fa) := fun H φ S F η σ D w h => by
  refine o H φ S _ _ η σ _ w.wf (fun _ z => .inr z) w.re ((GoS.lift w h).imp fun q φ1 S1 H1 e1 w1 h1 x rx => ?_)
  obtain ⟨h1, ws1⟩ := h1
  split at h1
  · split at h1
    · rename_i n d fs e0
      split at h1
      · rename_i hd
        subst hd
        split at h1
        · rename_i i el
          cases rx with
          | ref ha =>
            obtain ⟨dx, gs, h3, r⟩ := ws1.wf.ins e0 ha
            obtain ⟨v, e2, rv⟩ := r.get el
            cases rv
            refine ⟨_, _, dx, gs, _, rfl, h3, hc, hn, e2, ?_⟩
            refine a H1 φ1 S1 _ _ η σ _ ws1.wf (fun _ z => .inr z) ws1.re ((GoS.lift ws1 h1).imp fun p φ2 S2 H2 ev2 w2 h2 y ry => ?_)
            obtain ⟨h2, ws2⟩ := h2
            split at h2
            · rename_i j
              cases ry
              split at h2
              · rename_i d' fs' e0'
                split at h2
                · rename_i hl
                  obtain ⟨rfl, hl⟩ := hl
                  obtain ⟨dx', gs', h4, r'⟩ := ws2.wf.ins e0' (ev2.pre _ _ ha)
                  obtain ⟨w3, e3⟩ := ws2.wf.put (o' := .ins _ (putP f (.int (g i j)) fs')) e0' (ev2.pre _ _ ha) (.ins (r'.put .int))
                  exact hrd _ _ _ _ ⟨dx', gs', h4, by rw [r'.len]; exact hl, h2 φ2 _ σ (EvS.of e3) (ws2.step e3 w3)⟩
                · exact h2.elim
              · exact h2.elim
            · exact h2.elim
        · exact h1.elim
      · exact h1.elim
    · exact h1.elim
  · exact h1.elim
theorem rd_add {i j : Int} {H : Hp} {Q : VK} (q : Q (.int (i + j)) H) : rAdd (.int i) (.int j) H Q := ⟨_, _, rfl, rfl, q⟩
theorem rd_sub {i j : Int} {H : Hp} {Q : VK} (q : Q (.int (i - j)) H) : rSub (.int i) (.int j) H Q := ⟨_, _, rfl, rfl, q⟩
end
end Fu

end
section
set_option Elab.async false
set_option linter.all false
set_option maxRecDepth 100000
set_option maxHeartbeats 4000000
/-! `for` in a generator's body. -/
namespace L2
open PySem PySem.Spec PyProof.Rows GenW
section
variable {prog : Program} {w : World} {A : Around} {R : GenEnd} {Y : Protocol} {n : Nat} {s₀ : Shared} {c : Code} {fs : List Frame} {s : Shared} {env : Env}
  {K : Flow → Sem PySem.Fin} {J : Value → Sem PySem.Fin} {gd : Bool → Bool} {lv : List Value → List Value}
theorem seg_For {M : Model} {target iter : Expr} {body : List Stmt} {pos : Pos}
    (h : wpAny M (A.over c fs) (eval iter env) (fun x s₁ => wpAny M (A.over c fs) (pyIter x) (fun it s₂ => ∀ p, Seg M A R Y n s₀ (.forLoop target it body [] env) (M.den (.forLoop target it body [] env))
      (.ret (fun r => ((match r with | .ok f => (.pure f : Sem Flow) | .error e => .raise e).onRaise (cameBack env)).wrap K J gd lv) none (gd false) (lv []) c p [] :: fs) s₂)
      (fun x s' => Seg M A R Y n s₀ c (J x) fs s') s₁) (fun x s' => Seg M A R Y n s₀ c (J x) fs s') s)
    (hs : ∀ x, foldedSetIterable iter env x = pure x := by intro _; rfl) : Seg M A R Y n s₀ c ((exec (.For target iter body [] pos) env).wrap K J gd lv) fs s := by
  rw [exec_For]
  refine seg_bind_wrap (wpAny_standAt ?_)
  refine seg_bind_wrap (wpAny_mono h (fun x s₁ h₁ => ?_) fun _ _ h' => h')
  refine seg_bind_wrap (wpAny_of_eq (hs x) ?_)
  refine seg_bind_wrap (wpAny_standAt ?_)
  refine seg_bind_wrap (wpAny_holding (wpAny_mono h₁ (fun it s₂ h₂ => ?_) fun _ _ h' => h'))
  exact seg_call h₂
theorem seg_forLoop {target : Expr} {it : Value} {body : List Stmt}
    (h : wpAny (model prog w) (A.over (.forLoop target it body [] env) fs) (pyNext it) (fun r s₁ => match r with
      | none => Seg (model prog w) A R Y n s₀ (.block [] env) (.pure (.done .next)) fs s₁
      | some v => wpAny (model prog w) (A.over (.forLoop target it body [] env) fs) (letOwnedTupleGo target it v) (fun _ s₂ => wpAny (model prog w) (A.over (.forLoop target it body [] env) fs) (assign target env v) (fun _ s₃ =>
          Seg (model prog w) A R Y n s₀ (.forLoop target it body [] env) ((execs body env).wrap (fun f => match f with
            | .next | .cont => .pure (.again (.forLoop target it body [] env))
            | .brk => .pure (.done .next)
            | .ret v => .pure (.done (.ret v))) (fun e => (do noteFrame e env; theTreesLotGoes e : Sem Unit).wrap (fun _ => .raise e) .raise id id) id id) fs s₃)
          (fun x s' => Seg (model prog w) A R Y n s₀ (.forLoop target it body [] env) ((do noteFrame x env; theTreesLotGoes x : Sem Unit).wrap (fun _ => .raise x) .raise id id) fs s') s₂)
        (fun x s' => Seg (model prog w) A R Y n s₀ (.forLoop target it body [] env) ((do noteFrame x env; theTreesLotGoes x : Sem Unit).wrap (fun _ => .raise x) .raise id id) fs s') s₁)
      (fun x s' => Seg (model prog w) A R Y n s₀ (.forLoop target it body [] env) ((do noteFrame x env; theTreesLotGoes x : Sem Unit).wrap (fun _ => .raise x) .raise id id) fs s') s) :
    Seg (model prog w) A R Y n s₀ (.forLoop target it body [] env) ((model prog w).den (.forLoop target it body [] env)) fs s := by
  show Seg _ A R Y n s₀ _ ((forTurn target it body [] env).onRaise (fun x => do noteFrame x env; theTreesLotGoes x)) fs s
  unfold forTurn
  rw [Sem.onRaise_eq_wrap]
  have eh : (fun e => ((do noteFrame e env; theTreesLotGoes e : Sem Unit)).bind fun _ => (.raise e : Sem PySem.Fin)) = fun e => (do noteFrame e env; theTreesLotGoes e : Sem Unit).wrap (fun _ => .raise e) .raise id id := by
    funext e
    rw [Sem.bind_eq_wrap]
  rw [eh]
  refine seg_bind_wrap (wpAny_standAt ?_)
  refine seg_bind_wrap (wpAny_onRaise (wpAny_mono h (fun r s₁ h₁ => ?_) fun _ _ h' => wpAny_standAt h'))
  cases r with
  | none => exact seg_again rfl h₁
  | some v =>
    refine seg_bind_wrap (wpAny_mono h₁ (fun _ s₂ h₂ => ?_) fun _ _ h' => h')
    refine seg_bind_wrap (wpAny_mono h₂ (fun _ s₃ h₃ => ?_) fun _ _ h' => h')
    rw [Sem.bind_eq_wrap', Sem.wrap_wrap]
    rw [Sem.wrap_congr (execs body env) _ _ (K' := fun f => match f with
            | .next | .cont => .pure (.again (.forLoop target it body [] env))
            | .brk => .pure (.done .next)
            | .ret v => .pure (.done (.ret v))) (H' := (fun e => (do noteFrame e env; theTreesLotGoes e : Sem Unit).wrap (fun _ => .raise e) .raise id id))
        (fun f => by cases f <;> rfl) (fun e => by rfl)]
    exact h₃
end
section
variable {X : Cx} {tg : Expr}
/-- for, in a generator's body; the list: what is out so far -/
def tGFor (wi : TI) (g : TG) (tb : TGn) : TGn := fun D ys σ H => wi σ H fun J H1 => ∃ W : Nat → Nat → List V → St → Hp → Prop, (∃ m, W 0 m ys σ H1) ∧ ∀ i m ys σ H, W i m ys σ H →
  (J.stop i H ∧ D.nx ys σ H) ∨ (J.go i H ∧ ∃ N : List V → St → Hp → Prop, (∀ ys' σ' H', N ys' σ' H' → ∃ m', m' < m ∧ W (i + 1) m' ys' σ' H') ∧ ∀ x H', J.yld i H x H' → g x σ H' fun σ2 H2 => tb { D with nx := N, ct := N, bk := D.nx } ys σ2 H2)
theorem GI.less {S : Addr} {ip pl : List (Addr × Obj)} {ys : List V} {σ : St} {H : Hp} {s : Shared} (h : GI X S (ip ++ pl) ys σ H s) : GI X S ip ys σ H s := by
  obtain ⟨acc, c, r, I⟩ := h
  exact ⟨acc, c, r, Inv.unpinned (pins := (S, lstObj acc c) :: ip) (pl := pl) I⟩
theorem gs_for {iter : Expr} {body : List Stmt} {wi : TI} {g : TG} {tb : TGn} {pos : Pos} (hp : PassesOwn (model X.prog X.w) X.A X.env X.xe) (hc : X.calm = true) (hi : PI X tg iter wi) (hg : PG X tg g) (hb : GSs X body tb)
    (hs : ∀ x, foldedSetIterable iter X.env x = pure x := by intro _; rfl) : GS X (.For tg iter body [] pos) (tGFor wi g tb) := by
  refine ⟨fun A S ip R n ys s₀ c fs K J gd lv s σ H D gc hn k hI ht => ?_⟩
  obtain ⟨acc, cc, r, I⟩ := hI
  refine seg_For ?_ hs
  rw [gc.over]
  refine wpAny_mono (hi.run _ s σ H _ I ht) (fun v s1 h1 => wpAny_mono h1 (fun itv s2 h2 p => ?_) fun x s' hx => k.exc n s₀ x s' hx) fun x s' hx => k.exc n s₀ x s' hx
  obtain ⟨it, fp, tn, J', H2, e, I2, T, st2, f2, W, ⟨m0, w0⟩, turn⟩ := h2
  subst e
  have stat : ∀ {H' : Hp} {acc' : Array Value} {cc' : Nat}, (∀ b ∈ fp, H' b = none) → ∀ b ∈ fp, FpOk X ((S, lstObj acc' cc') :: ip) H' b := fun hn b hb => by
    obtain ⟨q0, q1, q2, q3, q4, q5⟩ := f2 b hb
    refine ⟨hn b hb, q1, q2, q3, q4, fun p hp => ?_⟩
    rcases List.mem_append.mp hp with z | z
    · exact q5 p (List.mem_append_left _ z)
    · rcases List.mem_cons.mp z with z | z
      · rw [z]
        exact q5 (S, lstObj acc cc) (List.mem_append_right _ List.mem_cons_self)
      · exact q5 p (List.mem_append_right _ (List.mem_cons_of_mem _ z))
  have gl := fun (kk : Result → Sem PySem.Fin) => gc_loop (k := kk) (c' := .forLoop tg (.ref it) body [] X.env) (l := lv []) (kp := []) (p := p) gc rfl rfl
  have loop : ∀ (m i n : Nat) (ys : List V) (s₀ s : Shared) (σ : St) (H : Hp), n + ys.length = sizeLine → W i m ys σ H → GI X S ip ys σ H s → tn i s.heap → (∀ b ∈ fp, H b = none) →
      Seg (model X.prog X.w) A R (GY X S) n s₀ (.forLoop tg (.ref it) body [] X.env) ((model X.prog X.w).den (.forLoop tg (.ref it) body [] X.env))
        (.ret (fun r => ((match r with | .ok f => (.pure f : Sem Flow) | .error e => .raise e).onRaise (cameBack X.env)).wrap K J gd lv) none (gd false) (lv []) c p [] :: fs) s := by
    intro m
    induction m using Nat.strongRecOn with
    | ind m ih =>
      intro i n ys s₀ s3 σ3 H3 hn w3 hI st3 fr3
      have ee : ∀ (n : Nat) (s₀ : Shared) (x : Value) (s' : Shared), X.xe x s' → Seg (model X.prog X.w) A R (GY X S) n s₀ (.forLoop tg (.ref it) body [] X.env)
          ((do noteFrame x X.env; theTreesLotGoes x : Sem Unit).wrap (fun _ => .raise x) .raise id id)
          (.ret (fun r => ((match r with | .ok f => (.pure f : Sem Flow) | .error e => .raise e).onRaise (cameBack X.env)).wrap K J gd lv) none (gd false) (lv []) c p [] :: fs) s' := fun n s₀ x s' hx => by
        refine seg_wrap ?_
        rw [(gl _).over]
        refine wpAny_bind (wpAny_mono (hp x s' hx) (fun _ s'' hcb => wpAny_theTreesLotGoes ?_) fun y s'' hcb => ?_)
        · exact seg_leaf (.error x) (seg_cameBack gc k hcb)
        · exact seg_leaf (.error y) (seg_cameBack gc k hcb)
      refine seg_forLoop ?_
      rw [(gl _).over]
      obtain ⟨acc3, cc3, r3, I3⟩ := hI
      rcases turn i m ys σ3 H3 w3 with ⟨stop, qn⟩ | ⟨go, N, hN, step⟩
      · refine wpAny_mono (T.done X rfl rfl rfl hc i _ s3 σ3 H3 (fun _ _ => False) I3 (stat fr3) st3 stop) (fun r s4 ⟨hr, I4⟩ => ?_) fun x s' hx => hx.elim
        subst hr
        exact seg_leaf (.ok .next) (k.ok n ys s₀ s4 .next hn ⟨σ3, H3, ⟨acc3, cc3, r3, I4⟩, qn⟩)
      · refine wpAny_mono (T.item X rfl rfl rfl hc i _ s3 σ3 H3 X.xe I3 (stat fr3) st3 go) (fun r s4 ⟨u, hr, h4⟩ => ?_) fun x s' hx => ee n s₀ x s' hx
        subst hr
        refine wpAny_mono h4 (fun _ s5 ⟨x, H5, I5, r5, y5, st5, fr5⟩ => ?_) fun x s' hx => ee n s₀ x s' hx
        have I5' := I5.pinned (stat fr5) (T.obj _ _ st5)
        refine wpAny_mono (hg.run _ s5 σ3 H5 x u _ I5' r5 (step x H5 y5)) (fun _ s6 ⟨σ6, H6, I6, q6⟩ => ?_) fun x s' hx => ee n s₀ x s' hx
        have I6' : GI X S (ip ++ pinsAt fp s5.heap) ys σ6 H6 s6 := ⟨acc3, cc3, r3, I6⟩
        have gl' : ∀ kk : Result → Sem PySem.Fin, GC X S (ip ++ pinsAt fp s5.heap) A (.forLoop tg (.ref it) body [] X.env) (.ret kk none (gd false) (lv []) c p [] :: fs) id := fun kk =>
          { gl kk with
            ip := fun p hp => by
              rcases List.mem_append.mp hp with z | z
              · exact gc.ip p z
              · obtain ⟨hb, _⟩ := of_pinsAt z
                exact fun e => (f2 p.1 hb).2.2.2.2.2 (S, lstObj acc cc) (List.mem_append_right _ List.mem_cons_self) e.symm }
        have again : ∀ {n' : Nat} {ys' : List V} {s₀' s7 : Shared} {σ7 : St} {H7 : Hp}, n' + ys'.length = sizeLine → GI X S (ip ++ pinsAt fp s5.heap) ys' σ7 H7 s7 → N ys' σ7 H7 →
            Seg (model X.prog X.w) A R (GY X S) n' s₀' (.forLoop tg (.ref it) body [] X.env) (.pure (.again (.forLoop tg (.ref it) body [] X.env)))
              (.ret (fun r => ((match r with | .ok f => (.pure f : Sem Flow) | .error e => .raise e).onRaise (cameBack X.env)).wrap K J gd lv) none (gd false) (lv []) c p [] :: fs) s7 := fun {n' ys' s₀' s7 σ7 H7} hn' I7 n7 => by
          obtain ⟨m', hm, w7⟩ := hN ys' σ7 H7 n7
          obtain ⟨acc7, cc7, r7, J7⟩ := id I7
          have pin7 : ∀ b ∈ fp, ∀ o, s5.heap.get? b = some o → s7.heap.get? b = some o ∧ H7 b = none := fun b hb o e => by
            have q := J7.pin (b, o) (List.mem_append_right _ (List.mem_cons_of_mem _ (List.mem_append_right _ (mem_pinsAt hb e))))
            exact ⟨q.1, q.2.1⟩
          refine seg_again rfl (ih m' hm (i + 1) n' ys' s₀' s7 σ7 H7 hn' w7 I7.less (T.keep _ _ _ st5 fun b hb o e => (pin7 b hb o e).1) fun b hb => ?_)
          obtain ⟨o, e, d⟩ := T.obj _ _ st5 b hb
          exact (pin7 b hb o e).2
        refine hb.run A S _ R n ys s₀ _ _ _ _ id id s6 σ6 H6 { D with nx := N, ct := N, bk := D.nx } (gl' _) hn ⟨fun n' ys' s₀' s7 f hn' hs => ?_, fun n' s₀' x s7 hx => ee n' s₀' x s7 hx⟩ I6' q6
        cases f with
        | next => obtain ⟨σ7, H7, I7, n7⟩ := hs; exact again hn' I7 n7
        | cont => obtain ⟨σ7, H7, I7, n7⟩ := hs; exact again hn' I7 n7
        | brk => obtain ⟨σ7, H7, I7, q7⟩ := hs; exact seg_leaf (.ok .next) (k.ok n' ys' s₀' s7 .next hn' ⟨σ7, H7, I7.less, q7⟩)
        | ret v => obtain ⟨x7, σ7, H7, I7, r7, q7⟩ := hs; exact seg_leaf (.ok (.ret v)) (k.ok n' ys' s₀' s7 (.ret v) hn' ⟨x7, σ7, H7, I7.less, r7, q7⟩)
  exact loop m0 0 n ys s₀ s2 σ H2 hn w0 ⟨acc, cc, r, I2⟩ st2 fun b hb => (f2 b hb).1
end
end L2

end
section
set_option Elab.async false
set_option linter.all false
set_option maxRecDepth 100000
set_option maxHeartbeats 4000000
/-! list(g()) of a generator def whose values are known: the three loops over a constant of the top. -/
namespace L2
open PySem PySem.Spec PyProof.Rows GenW
section
variable {X : Cx} {k : Nat} {f : Addr} {fd : FuncData} {ps : List Str} {sp : SpG} {dvs : List V} {ds : List Value} {x : Str} {p pos pos' : Pos}
/-- f() of a generator def -/
theorem pgen_call0 {E : XK} (F : GFn X.prog X.w X.K X.mg X.base k f fd ps sp) (hr : Room k X.A) (hg : Gl X x) (hm : X.mg x = some (.ref f)) (hk : PySem.W.keepIn X.K (.ref f) = true) (hb : Binds X.K fd ps ds) (hd : Vals dvs ds)
    (hdb : (x == ("__debug__" : Str)) = false := by decide) : PGen X k (.Call (.Name x p) [] [] pos') (tCallG sp dvs E tNil) E := by
  refine ⟨fun pins s σ H cont I h => ?_⟩
  refine wpAny_Call_Name_kw (ld_glob I hg hm ?_ hdb)
  exact PySem.W.callWith_K0 (first := []) I.kIn hk (run_gfn (us := []) (vs := []) F hr hb hd I .nil h)
end
section
variable {P : Program} {w : World} {K : PySem.W.Frag} {mg : Str → Option Value} {base : Heap} {x qual : Str} {params : Arguments} {body : List Stmt} {scope : Scope} {dvs : List V} {kws : List (Str × V)} {f : Addr} {fd : FuncData}
theorem FunD.gok {N ps : List Str} {k : Nat} {sp : SpG} (F : FunD K x qual params body scope dvs kws f fd) (S : GScope N ps scope) (len : ∀ vs H Q E, sp vs H Q E → vs.length = ps.length)
    (hbody : ∀ (cdv : Value) (A : Around) (outer : List Env) (s : Shared) (H : Hp) (vs : List V) (Q : List V → Hp → Prop) (E : XK) (pn : List (Addr × Obj)), Room k (A.deeper (envOfC qual scope s.heap.objs.size f cdv)) → sp vs H Q E →
      ∃ t, GSs (gcxOf P w K mg base N qual scope f cdv A outer s H E pn) body t ∧ t { nx := fun ys _ H' => Q ys H', rt := fun ys v H' => v = .non ∧ Q ys H' } [] (start N vs) H) : GFn P w K mg base (k + 1) f fd ps sp := by
  obtain ⟨oc, od, dV, kV, doc, pm, an, cdv, ct, osl, rfl, lk, hcd, _, _⟩ := F.ex
  exact gfn_of lk hcd S len fun A outer s H vs Q E pn hr hsp => hbody cdv A outer s H vs Q E pn hr hsp
end
end L2
namespace Fu
open PySem PySem.Spec PyProof.Rows L2
open He (ga)
variable {K : PySem.W.Frag} {pv : V × Option Addr} {E : XW}
/-- it hands out these values, each new -/
def spGen (K : PySem.W.Frag) (rows : List PV) : SpG := fun vs H Q E => vs = [] ∧ ∀ ys H', (∀ a, H a ≠ none → H' a = H a) → RVs K H' [] (fun a => H a ≠ none) rows ys → Q ys H'
/-- the module's generator def x keeps the promise -/
structure GGOk (P : Program) (w : World) (K : PySem.W.Frag) (mg : Str → Option Value) (base : Heap) (k : Nat) (x : Str) (ps : List Str) (sp : SpG) : Prop where
  g : mg x = some (.ref (ga K x))
  ex : ∃ fd, PySem.W.keepIn K (.ref (ga K x)) = true ∧ Binds K fd ps [] ∧ GFn P w K mg base k (ga K x) fd ps sp
/-- list(f()) -/
theorem pe_listG0 {X : Cx} {k : Nat} {x nm : Str} {p p2 pos pos2 : Pos} {sp : SpG} (G : GGOk X.prog X.w X.K X.mg X.base k x [] sp) (hr : Room (k + 3) X.A) (hg2 : Gl X x) (hg : Gl X nm) (hmg : X.mg nm = none) (hv : bootBuiltins nm = some (.type "list")) (hdb2 : (x == ("__debug__" : Str)) = false := by decide) (hnm : nm ≠ "__name__" := by decide) (hdb : (nm == ("__debug__" : Str)) = false := by decide)
    (he : starEach [.Call (.Name x p2) [] [] pos2] X.env = (false, eval (.Call (.Name x p2) [] [] pos2) X.env) :: starEach [] X.env := by rfl) :
    PE X (.Call (.Name nm p) [.Call (.Name x p2) [] [] pos2] [] pos) (tListG (tCallG sp [] (fun _ _ _ => False) tNil)) := by
  obtain ⟨fd, h1, h2, h3⟩ := G.ex
  refine pe_listG (pgen_call0 h3 (hr.mono (by omega)) hg2 G.g h1 h2 .nil hdb2) (fun pins σ H s e s' I h => ?_) (fun _ _ _ z => z.elim) hr hg hmg hv hnm hdb he
  obtain ⟨_, _, _, _, _, _, _, _, _, _, _, _, hW⟩ := h
  exact hW.elim
def listGN (rows : List PV) : FN := fun _ S => .ok rows S
theorem sn_listG {rows : List PV} {X : XK} : SimN K pv E (tListG (tCallG (spGen K rows) [] X tNil)) (listGN rows) := fun H φ S F O η σ Q w hO re h => by
  refine ⟨rfl, fun ys H' keep rvs p hp => ?_⟩
  have keep2 : ∀ a, H a ≠ none → upd H' p (.lst ys) a = H a := fun a ha => by
    have e := keep a ha
    exact (upd_ne fun z => ha (by rw [← e, z]; exact hp)).trans e
  have hn : H p = none := by
    cases q : H p with
    | none => rfl
    | some o => rw [← keep p (by rw [q]; nofun), hp] at q; cases q
  refine h φ _ (ev_ext keep2) (w.ext keep2) p ys hn ((w.ext keep).newF hp) upd_same ?_
  refine rvs.mono (fun a ha m => ⟨upd_ne fun z => ha (by rw [z]; exact hp), fun z => ?_⟩) (fun n a e => by cases n <;> cases e)
  have hz : H a = none := by
    cases q : H a with
    | none => rfl
    | some o => exact absurd (by rw [q]; nofun) m
  exact z.elim (lv_none w hz) fun z => z.elim (f_none w hz) fun z => ha (by rw [show a = p from z]; exact hp)
@[simp] theorem e_listGN {rows : List PV} {η : Sls} {S : AS} : listGN rows η S = .ok rows S := rfl
/-- a loop over a constant of the top -/
theorem gfor_const {te : TE} {a : Addr} {xs : List V} {g : TG} {tb : TGn} {D : GEnds} {ys : List V} {σ : L2.St} {H : Hp} (hte : ∀ σ H Q, Q (.ref a) H → te σ H Q) (hx : ∀ H, SqT K H a xs) (Pv : Nat → List V → L2.St → Hp → Prop) (h0 : Pv 0 ys σ H)
    (hs : ∀ i x ys σ H, xs[i]? = some x → Pv i ys σ H → g x σ H fun σ2 H2 => tb { D with nx := Pv (i + 1), ct := Pv (i + 1), bk := D.nx } ys σ2 H2) (hd : ∀ ys σ H, Pv xs.length ys σ H → D.nx ys σ H) : tGFor (iAny K te) g tb D ys σ H := by
  refine hte σ H _ (.inl ⟨a, rfl, .inr ⟨⟨xs, hx H⟩, ?_⟩⟩)
  refine ⟨fun i m ys σ H => m = xs.length - i ∧ i ≤ xs.length ∧ Pv i ys σ H, ⟨xs.length, by simp, Nat.zero_le _, h0⟩, ?_⟩
  rintro i m ys σ H ⟨rfl, hi, p⟩
  have q := hx H
  by_cases hlt : i < xs.length
  · refine .inr ⟨⟨xs, xs[i], q, by simp [hlt]⟩, Pv (i + 1), fun ys' σ' H' p' => ⟨xs.length - (i + 1), by omega, rfl, hlt, p'⟩, fun x H' y => ?_⟩
    obtain ⟨e, y⟩ := y
    subst e
    exact hs i x ys σ _ (y xs q) p
  · have e : i = xs.length := by omega
    subst e
    exact .inl ⟨⟨xs, q, Nat.le_refl _⟩, hd ys σ H p⟩
/-- what is out -/
def Out (K : PySem.W.Frag) (H0 : Hp) (ps : List PV) (ys : List V) (H : Hp) : Prop := (∀ a, H0 a ≠ none → H a = H0 a) ∧ RVs K H [] (fun a => H0 a ≠ none) ps ys
theorem Out.more {H0 H : Hp} {ps : List PV} {ys : List V} (h : Out K H0 ps ys H) {p : Addr} (hp : H p = none) {a b c : PV} {x y z : V} (ra : ∀ H φ M, RV K H φ M a x) (rb : ∀ H φ M, RV K H φ M b y) (rc : ∀ H φ M, RV K H φ M c z) : Out K H0 (ps ++ [.tup [a, b, c]]) (ys ++ [.ref p]) (upd H p (.tup [x, y, z])) := by
  refine ⟨fun q hq => ?_, ?_⟩
  · have e := h.1 q hq
    exact (upd_ne fun z => hq (by rw [← e, z]; exact hp)).trans e
  · refine (h.2.mono (fun q hq m => ⟨upd_ne fun z => hq (by rw [z]; exact hp), m⟩) fun _ _ e => e).append (.cons (.tup ⟨upd_same, fun hn => hn ?_⟩ (.cons (ra _ _ _) (.cons (rb _ _ _) (.cons (rc _ _ _) .nil)))) .nil)
    cases q : H0 p with
    | none => rfl
    | some o => rw [← h.1 p (by rw [q]; nofun), hp] at q; cases q
def rows3 (qs : List PV) : List PV := qs.flatMap fun a => qs.flatMap fun b => qs.map fun c => .tup [a, b, c]
theorem take_succ' {α : Type} {l : List α} {i : Nat} {x : α} (h : l[i]? = some x) : l.take (i + 1) = l.take i ++ [x] := by
  rw [List.take_add_one, h]
  rfl
/-- three loops over a constant of the top, a tuple of three in the innermost -/
theorem gen3 {te : TE} {a : Addr} {xs : List V} {qs : List PV} {D : GEnds} {H0 : Hp} (hte : ∀ σ H Q, Q (.ref a) H → te σ H Q) (hx : ∀ H, SqT K H a xs) (hl : xs.length = qs.length) (hs : qs.length ≤ 10) (hq : ∀ (i : Nat) x, xs[i]? = some x → ∃ p, qs[i]? = some p ∧ ∀ H φ M, RV K H φ M p x)
    (hD : ∀ ys σ H, Out K H0 (rows3 qs) ys H → D.nx ys σ H) :
    tGFor (iAny K te) (gName 0) (tGThen (tGFor (iAny K te) (gName 1) (tGThen (tGFor (iAny K te) (gName 2) (tGThen (tGYield (tTup (tCons (tVar 0) (tCons (tVar 1) (tCons (tVar 2) tNil))))) tG0)) tG0)) tG0) D [] [none, none, none] H0 := by
  refine gfor_const hte hx (fun i ys σ H => σ.length = 3 ∧ Out K H0 ((qs.take i).flatMap fun a => qs.flatMap fun b => qs.map fun c => .tup [a, b, c]) ys H) ⟨rfl, fun _ _ => rfl, .nil⟩ (fun i x ys σ H ex ⟨l3, o⟩ => ?_) fun ys σ H ⟨_, o⟩ => hD ys σ H (by rw [hl, List.take_length] at o; exact o)
  obtain ⟨a1, ea, ra⟩ := hq i x ex
  refine gfor_const hte hx (fun j ys σ H => σ.length = 3 ∧ σ[0]? = some (some x) ∧ Out K H0 (((qs.take i).flatMap fun a => qs.flatMap fun b => qs.map fun c => .tup [a, b, c]) ++ (qs.take j).flatMap fun b => qs.map fun c => .tup [a1, b, c]) ys H)
    ⟨by simpa using l3, by rw [List.getElem?_set]; simp [l3], by simpa using o⟩ (fun j y ys σ H ey ⟨l3, s0, o⟩ => ?_) fun ys σ H ⟨l3, _, o⟩ => ⟨l3, ?_⟩
  · obtain ⟨b1, eb, rb⟩ := hq j y ey
    refine gfor_const hte hx (fun k ys σ H => σ.length = 3 ∧ σ[0]? = some (some x) ∧ σ[1]? = some (some y) ∧ Out K H0 (((qs.take i).flatMap fun a => qs.flatMap fun b => qs.map fun c => .tup [a, b, c]) ++ ((qs.take j).flatMap fun b => qs.map fun c => .tup [a1, b, c]) ++ (qs.take k).map fun c => .tup [a1, b1, c]) ys H)
      ⟨by simpa using l3, by rw [List.getElem?_set_ne (by decide)]; exact s0, by rw [List.getElem?_set]; simp [l3], by simpa using o⟩ (fun k z ys σ H ez ⟨l3, s0, s1, o⟩ => ?_) fun ys σ H ⟨l3, s0, _, o⟩ => ⟨l3, s0, ?_⟩
    · obtain ⟨c1, ec, rc⟩ := hq k z ez
      refine ⟨?_, ?_⟩
      · have e1 := o.2.len
        have : (((qs.take i).flatMap fun a => qs.flatMap fun b => qs.map fun c => PV.tup [a, b, c]) ++ ((qs.take j).flatMap fun b => qs.map fun c => PV.tup [a1, b, c]) ++ (qs.take k).map fun c => PV.tup [a1, b1, c]).length ≤ 3000 := by
          have m1 : ∀ (l : List PV) (f : PV → List PV) (n : Nat), (∀ x, (f x).length ≤ n) → (l.flatMap f).length ≤ l.length * n := by
            intro l f n hf
            induction l with
            | nil => simp
            | cons x l ih =>
              rw [List.flatMap_cons, List.length_append, List.length_cons, Nat.succ_mul]
              have := hf x
              omega
          have h1 := m1 (qs.take i) (fun a => qs.flatMap fun b => qs.map fun c => PV.tup [a, b, c]) 100 fun x => by
            have := m1 qs (fun b => qs.map fun c => PV.tup [x, b, c]) 10 fun y => by simpa using hs
            omega
          have h2 := m1 (qs.take j) (fun b => qs.map fun c => PV.tup [a1, b, c]) 10 fun y => by simpa using hs
          have t1 : (qs.take i).length ≤ 10 := by rw [List.length_take]; omega
          have t2 : (qs.take j).length ≤ 10 := by rw [List.length_take]; omega
          have t3 : (qs.take k).length ≤ 10 := by rw [List.length_take]; omega
          rw [List.length_append, List.length_append, List.length_map]
          omega
        have hz : 3000 < sizeLine := by decide
        omega
      · refine ⟨x, by rw [List.getElem?_set_ne (by decide)]; exact s0, y, by rw [List.getElem?_set_ne (by decide)]; exact s1, z, by rw [List.getElem?_set]; simp [l3], (show 3 ≤ sizeLine from by decide), fun p hp => ?_⟩
        refine ⟨by simpa using l3, by rw [List.getElem?_set_ne (by decide)]; exact s0, by rw [List.getElem?_set_ne (by decide)]; exact s1, ?_⟩
        have := o.more hp ra rb rc
        rw [take_succ' ec, List.map_append, ← List.append_assoc]
        exact this
    · rw [hl, List.take_length] at o
      rw [take_succ' eb, List.flatMap_append, ← List.append_assoc]
      simpa using o
  · rw [hl, List.take_length] at o
    rw [take_succ' ea, List.flatMap_append]
    simpa using o
end Fu

end
section
set_option Elab.async false
set_option linter.all false
set_option maxRecDepth 100000
set_option maxHeartbeats 4000000
/-! enumerate of a list; tables of the top. -/
namespace Fu
open PySem PySem.Spec PyProof.Rows L2
open He (ga)
section
variable {K : PySem.W.Frag} {pv : V × Option Addr} {E : XW} {F O : Addr → Prop} {H H' H1 H3 : Hp} {φ φ' φ1 : List Addr} {S S' S1 : AS} {M : Addr → Prop} {η : Sls} {σ : L2.St}
def enumL : Nat → List PV → List PV
  | _, [] => []
  | j, x :: xs => .tup [.int (j : Nat), x] :: enumL (j + 1) xs
@[simp] theorem enumL_nil {j : Nat} : enumL j [] = [] := rfl
@[simp] theorem enumL_cons {j : Nat} {x : PV} {xs : List PV} : enumL j (x :: xs) = .tup [.int (j : Nat), x] :: enumL (j + 1) xs := rfl
@[simp] theorem enumL_len : ∀ {j : Nat} {xs : List PV}, (enumL j xs).length = xs.length
  | _, [] => rfl
  | j, x :: xs => congrArg Nat.succ (enumL_len (j := j + 1) (xs := xs))
theorem enumL_at : ∀ {j : Nat} {xs : List PV} {i : Nat} {p : PV}, (enumL j xs)[i]? = some p → ∃ x, xs[i]? = some x ∧ p = .tup [.int ((j + i : Nat) : Int), x]
  | _, [], _, _, h => by simp [enumL] at h
  | j, x :: xs, 0, p, h => by simp at h; exact ⟨x, rfl, h.symm⟩
  | j, x :: xs, i + 1, p, h => by
    obtain ⟨y, h1, h2⟩ := enumL_at (j := j + 1) (xs := xs) (i := i) (p := p) (by simpa using h)
    refine ⟨y, by simpa using h1, ?_⟩
    rw [h2, show j + 1 + i = j + (i + 1) by omega]
def enumI (f : FA) : FI := fun η S => (f η S).bind fun ps S => match ps with
  | [.lst ys] => .ok (enumL 0 ys) S
  | [.kls ys] => .ok (enumL 0 ys) S
  | _ => .stuck
@[simp] theorem e_enumI {f : FA} {η : Sls} {S : AS} : enumI f η S = (f η S).bind fun ps S => match ps with
  | [.lst ys] => .ok (enumL 0 ys) S
  | [.kls ys] => .ok (enumL 0 ys) S
  | _ => .stuck := rfl
theorem walks_enum {a : Addr} {ps : List PV} {vs : List V} (r : RVs K H φ M ps vs) (h1 : ∀ H', (∀ a, H a ≠ none → ¬ M a → H' a = H a) → SqL K H' a vs) : Walks K (Ite K a) (enumL 0 ps) H φ M := fun H' φ' M' k g hm => by
  have k' : ∀ a, H a ≠ none → ¬ M a → H' a = H a := fun a x m => (k a x m).1
  have q1 := h1 H' k'
  refine ⟨fun i p e => ?_, vs, q1, ?_⟩
  · obtain ⟨y, ey, rfl⟩ := enumL_at e
    obtain ⟨v, ev, rv⟩ := r.get ey
    refine ⟨⟨vs, v, q1, ev⟩, fun x H3 ⟨T, x1, ex, hT, e3, f1⟩ => ?_⟩
    have w1 := f1 vs q1
    rw [ev] at w1
    cases w1
    subst ex e3
    have up : ∀ a, H' a ≠ none → upd H' T (.tup [.int (i : Nat), v]) a = H' a := fun a h => upd_ne fun z => h (by rw [z]; exact hT)
    have kk : ∀ a, H a ≠ none → ¬ M a → upd H' T (.tup [.int (i : Nat), v]) a = H a ∧ ¬ M' a := fun a h m => by
      obtain ⟨z1, z2⟩ := k a h m
      exact ⟨(up a (by rw [z1]; exact h)).trans z1, z2⟩
    refine ⟨up, .tup ⟨upd_same, fun z => hm T z hT⟩ (.cons ?_ (.cons (rv.mono kk g) .nil))⟩
    rw [Nat.zero_add]
    exact .int
  · rw [enumL_len, r.len]
    exact Nat.le_refl _
theorem si_enum {t : TA} {f : FA} (s : SimA K pv E t f) : SimI K pv E (iEnum K t) (enumI f) := fun H φ S F O η σ R w hO re h => by
  refine s H φ S F O η σ _ w hO re (h.bind.imp fun ps φ1 S1 H1 e1 w1 h1 vs rs => ?_)
  split at h1
  · cases rs with
    | cons r rs =>
      cases rs
      cases r with
      | lst hl rl => exact ⟨_, _, rfl, hl.sq, h1.ok w1 _ (walks_enum rl fun H' k => lsI_at hl k)⟩
  · cases rs with
    | cons r rs =>
      cases rs
      cases r with
      | kls hl rl => exact ⟨_, _, rfl, hl.sq, h1.ok w1 _ (walks_enum rl fun H' k => klI_at hl k)⟩
  · exact h1.elim
end
/-! ### tables of the top -/
def TabOk (K : PySem.W.Frag) (a : Addr) (tab : List (Str × PV)) : Prop := ∀ e ∈ tab, keyTB K a e.1 e.2 = true
theorem tab_nil {K : PySem.W.Frag} {a : Addr} : TabOk K a [] := fun _ h => nomatch h
theorem tab_cons {K : PySem.W.Frag} {a : Addr} {k : Str} {p : PV} {r : List (Str × PV)} (h : keyTB K a k p = true) (t : TabOk K a r) : TabOk K a ((k, p) :: r) := fun e he => (List.mem_cons.mp he).elim (fun z => by rw [z]; exact h) (t e)
theorem tab_at {K : PySem.W.Frag} {a : Addr} {tab : List (Str × PV)} (t : TabOk K a tab) : ∀ z p, tab.lookup z = some p → keyTB K a z p = true := fun z p h => by
  have m : ∀ l : List (Str × PV), l.lookup z = some p → (z, p) ∈ l := fun l => by
    induction l with
    | nil => intro h; cases h
    | cons e l ih =>
      obtain ⟨y, q⟩ := e
      intro h
      by_cases ez : z = y
      · subst ez
        simp [List.lookup] at h
        subst h
        exact List.mem_cons_self
      · have hb : (z == y) = false := beq_eq_false_iff_ne.mpr ez
        simp only [List.lookup, hb] at h
        exact List.mem_cons_of_mem _ (ih h)
  exact t _ (m tab h)
end Fu

end
section
set_option Elab.async false
set_option linter.all false
set_option maxRecDepth 100000
set_option maxHeartbeats 4000000
/-! sorted of a list of numbers. -/
namespace Fu
open PySem PySem.Spec PyProof.Rows L2
open He (ga)
def insI (x : Int) : List Int → List Int
  | [] => [x]
  | y :: ys => if x ≤ y then x :: y :: ys else y :: insI x ys
def isort : List Int → List Int
  | [] => []
  | x :: xs => insI x (isort xs)
theorem insI_perm (x : Int) : ∀ ys : List Int, (insI x ys).Perm (x :: ys)
  | [] => .refl _
  | y :: ys => by
    unfold insI
    split
    · exact .refl _
    · exact ((insI_perm x ys).cons y).trans (.swap x y ys)
theorem isort_perm : ∀ xs : List Int, (isort xs).Perm xs
  | [] => .refl _
  | x :: xs => (insI_perm x _).trans ((isort_perm xs).cons x)
theorem insI_sorted (x : Int) : ∀ {ys : List Int}, ys.Pairwise (· ≤ ·) → (insI x ys).Pairwise (· ≤ ·)
  | [], _ => List.pairwise_singleton _ _
  | y :: ys, h => by
    obtain ⟨h1, h2⟩ := List.pairwise_cons.mp h
    unfold insI
    split
    · rename_i hx
      refine List.pairwise_cons.mpr ⟨fun z hz => ?_, h⟩
      rcases List.mem_cons.mp hz with rfl | hz
      · exact hx
      · exact Int.le_trans hx (h1 z hz)
    · rename_i hx
      refine List.pairwise_cons.mpr ⟨fun z hz => ?_, insI_sorted x h2⟩
      rcases List.mem_cons.mp ((insI_perm x ys).mem_iff.mp hz) with rfl | hz
      · omega
      · exact h1 z hz
theorem isort_sorted : ∀ xs : List Int, (isort xs).Pairwise (· ≤ ·)
  | [] => .nil
  | x :: xs => insI_sorted x (isort_sorted xs)
theorem sorted_one : ∀ {xs ys : List Int}, xs.Perm ys → xs.Pairwise (· ≤ ·) → ys.Pairwise (· ≤ ·) → xs = ys
  | [], ys, p, _, _ => (List.nil_perm.mp p).symm
  | x :: xs, [], p, _, _ => absurd (List.perm_nil.mp p) (by simp)
  | x :: xs, y :: ys, p, h, g => by
    obtain ⟨h1, h2⟩ := List.pairwise_cons.mp h
    obtain ⟨g1, g2⟩ := List.pairwise_cons.mp g
    have e : x = y := by
      have m1 : x ∈ y :: ys := p.mem_iff.mp List.mem_cons_self
      have m2 : y ∈ x :: xs := p.mem_iff.mpr List.mem_cons_self
      have l1 : y ≤ x := (List.mem_cons.mp m1).elim (fun z => by omega) fun z => g1 x z
      have l2 : x ≤ y := (List.mem_cons.mp m2).elim (fun z => by omega) fun z => h1 y z
      omega
    subst e
    exact congrArg (x :: ·) (sorted_one ((List.perm_cons x).mp p) h2 g2)
def intsL : List PV → Option (List Int)
  | [] => some []
  | .int i :: r => (intsL r).map (i :: ·)
  | _ => none
@[simp] theorem intsL_map : ∀ ns : List Int, intsL (ns.map PV.int) = some ns
  | [] => rfl
  | n :: ns => by
    show (intsL (ns.map PV.int)).map (n :: ·) = _
    rw [intsL_map ns]
    rfl
theorem intsL_ok : ∀ {xs : List PV} {ns : List Int}, intsL xs = some ns → xs = ns.map PV.int
  | [], ns, h => by cases h; rfl
  | .int i :: r, ns, h => by
    have h : (intsL r).map (i :: ·) = some ns := h
    cases e : intsL r with
    | none => rw [e] at h; cases h
    | some ms =>
      rw [e] at h
      cases h
      rw [intsL_ok e]
      rfl
section
variable {K : PySem.W.Frag} {pv : V × Option Addr} {E : XW} {F O : Addr → Prop} {H H' H1 H3 : Hp} {φ φ' φ1 : List Addr} {S S' S1 : AS} {M : Addr → Prop} {η : Sls} {σ : L2.St}
theorem of_ints : ∀ {ns : List Int} {vs : List V}, RVs K H φ M (ns.map PV.int) vs → vs = ns.map V.int
  | [], vs, h => by cases h; rfl
  | n :: ns, vs, h => by
    cases h with
    | cons r rs =>
      cases r
      rw [of_ints rs]
      rfl
def sortN (f : FA) : FN := fun η S => (f η S).bind fun ps S => match ps with
  | [p] => match litems p S with
    | some ys => match intsL ys with
      | some ns => .ok ((isort ns).map .int) S
      | none => .stuck
    | none => .stuck
  | _ => .stuck
@[simp] theorem e_sortN {f : FA} {η : Sls} {S : AS} : sortN f η S = (f η S).bind fun ps S => match ps with
  | [p] => match litems p S with
    | some ys => match intsL ys with
      | some ns => .ok ((isort ns).map .int) S
      | none => .stuck
    | none => .stuck
  | _ => .stuck := rfl
theorem call_sortedU {X : Cx} (h : X.K = K := by rfl) : CallR X (.builtin "sorted") (rSortedI K) := by
  subst h
  exact cr_sortedI
theorem sn_sorted {t : TA} {f : FA} (a : SimAB K pv E t f) : SimN K pv E (tCB (rSortedI K) t) (sortN f) := fun H φ S F O η σ Q w hO re h => by
  refine a H φ S F O η σ _ w hO re (h.bind.imp fun ps φ1 S1 H1 e1 w1 h1 xs rs => ?_)
  split at h1
  · rename_i p
    obtain ⟨x, rfl, r⟩ := rs.one
    cases e : litems p S1 with
    | none => rw [e] at h1; exact (show False from h1).elim
    | some ys =>
      rw [e] at h1
      cases e2 : intsL ys with
      | none => simp only [e2] at h1; exact (show False from h1).elim
      | some ns =>
        simp only [e2] at h1
        obtain ⟨b, vs, rfl, h2, r1⟩ := litems_ok w1 r e
        rw [intsL_ok e2] at r1
        obtain rfl := of_ints r1
        refine ⟨b, ns, rfl, h2, fun ns' l hp hs hl => ?_⟩
        obtain rfl := sorted_one (hp.trans (isort_perm ns).symm) hs (isort_sorted ns)
        exact GoE.lay (E' := E σ) (xs := (isort ns).map PV.int) w1 (rvs_ints _) hl e1.stay h1
  · exact h1.elim
end
end Fu

end
section
set_option Elab.async false
set_option linter.all false
set_option maxRecDepth 100000
set_option maxHeartbeats 4000000
/-! sorted(xs, key=f): f an own def whose values are tuples of numbers. -/
namespace Fu
open PySem PySem.Spec PyProof.Rows L2 SrtO
open He (ga)
/-! ### the sort by itself -/
def insK {α : Type} (lt : α → α → Bool) (x : α) : List α → List α
  | [] => [x]
  | y :: ys => if lt y x = true then y :: insK lt x ys else x :: y :: ys
def ksort {α : Type} (lt : α → α → Bool) : List α → List α
  | [] => []
  | x :: xs => insK lt x (ksort lt xs)
section
variable {α β : Type} {lt : α → α → Bool}
theorem insK_mem {x z : α} : ∀ {ys : List α}, z ∈ insK lt x ys → z = x ∨ z ∈ ys
  | [], h => (List.mem_cons.mp h).imp id fun h => by cases h
  | y :: ys, h => by
    unfold insK at h
    split at h
    · rcases List.mem_cons.mp h with e | h
      · exact .inr (by rw [e]; exact List.mem_cons_self)
      · exact (insK_mem h).imp id fun h => List.mem_cons_of_mem _ h
    · exact List.mem_cons.mp h
theorem insK_srtd (O : Swo lt) (x : α) : ∀ {ys : List α}, Srtd lt ys → Srtd lt (insK lt x ys)
  | [], _ => List.pairwise_singleton _ _
  | y :: ys, h => by
    obtain ⟨h1, h2⟩ := List.pairwise_cons.mp h
    unfold insK
    split
    · rename_i hx
      refine List.pairwise_cons.mpr ⟨fun z hz => ?_, insK_srtd O x h2⟩
      rcases insK_mem hz with e | hz
      · rw [e]
        exact O.asym _ _ hx
      · exact h1 z hz
    · rename_i hx
      have hx : lt y x = false := by cases q : lt y x with
        | true => exact absurd q hx
        | false => rfl
      refine List.pairwise_cons.mpr ⟨fun z hz => ?_, h⟩
      rcases List.mem_cons.mp hz with e | hz
      · rw [e]
        exact hx
      · exact O.tr x y z hx (h1 z hz)
theorem insK_stb (O : Swo lt) (x : α) : ∀ ys : List α, Stb lt (insK lt x ys) (x :: ys)
  | [] => Stb.refl _
  | y :: ys => by
    unfold insK
    split
    · rename_i hx
      have h1 : Stb lt ([y] ++ insK lt x ys) ([y] ++ (x :: ys)) := (Stb.refl [y]).app (insK_stb O x ys)
      have h2 : Stb lt (([y] ++ [x]) ++ ys) (([x] ++ [y]) ++ ys) := (Stb.swap O fun a ha b hb => by
        rw [List.mem_singleton.mp ha, List.mem_singleton.mp hb]
        exact hx).app (Stb.refl ys)
      exact h1.trans h2
    · exact Stb.refl _
theorem ksort_srtd (O : Swo lt) : ∀ xs : List α, Srtd lt (ksort lt xs)
  | [] => List.Pairwise.nil
  | x :: xs => insK_srtd O x (ksort_srtd O xs)
theorem ksort_stb (O : Swo lt) : ∀ xs : List α, Stb lt (ksort lt xs) xs
  | [] => Stb.refl _
  | x :: xs => (insK_stb O x _).trans ((Stb.refl [x]).app (ksort_stb O xs))
theorem insK_map {f : β → α} {lt2 : β → β → Bool} {x : β} : ∀ {ys : List β}, (∀ y ∈ ys, lt (f y) (f x) = lt2 y x) → insK lt (f x) (ys.map f) = (insK lt2 x ys).map f
  | [], _ => rfl
  | y :: ys, h => by
    rw [List.map_cons]
    unfold insK
    rw [h y List.mem_cons_self]
    split
    · rw [List.map_cons, insK_map fun z hz => h z (List.mem_cons_of_mem _ hz)]
    · rfl
theorem ksort_map {f : β → α} {lt2 : β → β → Bool} : ∀ {xs : List β}, (∀ x ∈ xs, ∀ y ∈ xs, lt (f x) (f y) = lt2 x y) → ksort lt (xs.map f) = (ksort lt2 xs).map f
  | [], _ => rfl
  | x :: xs, h => by
    have ih : ksort lt (xs.map f) = (ksort lt2 xs).map f := ksort_map fun a ha b hb => h a (List.mem_cons_of_mem _ ha) b (List.mem_cons_of_mem _ hb)
    have mem : ∀ {zs : List β} {y : β}, y ∈ ksort lt2 zs → y ∈ zs := by
      intro zs
      induction zs with
      | nil => intro y h; cases h
      | cons z zs ih =>
        intro y hy
        rcases insK_mem hy with e | hy
        · rw [e]; exact List.mem_cons_self
        · exact List.mem_cons_of_mem _ (ih hy)
    rw [List.map_cons]
    unfold ksort
    rw [ih]
    exact insK_map fun y hy => h y (List.mem_cons_of_mem _ (mem hy)) x List.mem_cons_self
end
theorem stb_symm {α : Type} {lt : α → α → Bool} {l m : List α} (h : Stb lt l m) : Stb lt m l := ⟨h.perm.symm, fun x => (h.cls x).symm⟩
/-! ### its function -/
def tupsL : List PV → Option (List (List Int))
  | [] => some []
  | .tup q :: r => match intsL q, tupsL r with
    | some (n :: ns), some l => some ((n :: ns) :: l)
    | _, _ => none
  | _ => none
def mapK (fk : Fn) : List PV → List PV → AS → R (List PV)
  | [], acc, S => .ok acc S
  | y :: ys, acc, S => (pureR (fk [y] S)).bind fun k S => if acc.length < 1000000 then mapK fk ys (acc ++ [k]) S else .stuck
def byKeys (kz : List (List Int)) (ys : List PV) : List PV := (ksort (fun p q : List Int × PV => lexI p.1 q.1) (kz.zip ys)).map (·.2)
def sortKeyN (fk : Fn) (f : FA) : FN := fun η S => (f η S).bind fun ps S => match ps with
  | [p] => match litems p S with
    | some ys => (mapK fk ys [] S).bind fun ks S => match tupsL ks with
      | some kz => .ok (byKeys kz ys) S
      | none => .stuck
    | none => .stuck
  | _ => .stuck
section
variable {K : PySem.W.Frag} {pv : V × Option Addr} {E : XW} {F O : Addr → Prop} {H H' H1 H3 : Hp} {φ φ' φ1 : List Addr} {S S' S1 : AS} {M : Addr → Prop} {η : Sls} {σ : L2.St}
theorem tups_of : ∀ {ks : List PV} {kz : List (List Int)} {us : List V}, tupsL ks = some kz → RVs K H φ M ks us → us.map (intsV H) = kz ∧ ∀ u ∈ us, ∃ t ns, u = V.ref t ∧ H t = some (.tup (ns.map V.int)) ∧ ns ≠ []
  | [], kz, us, h, r => by
    cases r
    cases h
    exact ⟨rfl, fun u hu => by cases hu⟩
  | k :: ks, kz, us, h, r => by
    cases r with
    | cons rk rr =>
      cases k with
      | tup q =>
        have h : (match intsL q, tupsL ks with
          | some (n :: ns), some l => some ((n :: ns) :: l)
          | _, _ => none) = some kz := h
        split at h
        · rename_i n ns l e1 e2
          cases h
          obtain ⟨i1, i2⟩ := tups_of e2 rr
          rw [intsL_ok e1] at rk
          cases rk with
          | tup ht rs =>
            have hv := of_ints rs
            have ht1 := ht.1
            rw [hv] at ht1
            refine ⟨by rw [List.map_cons, i1, intsV_tup ht1], fun u hu => ?_⟩
            rcases List.mem_cons.mp hu with e | hu
            · exact ⟨_, n :: ns, e, ht1, nofun⟩
            · exact i2 u hu
        · cases h
      | _ => cases h
def at2 (a b : Addr) : Addr → Prop := fun x => x = a ∨ x = b
theorem WF.chg (w : WF K H φ S F) (h : ∀ a, ¬ F a → H' a = H a) (hs : ∀ a, H a ≠ none → H' a ≠ none) : WF K H' φ S F where
  len := w.len
  live := fun n u e => by
    obtain ⟨a, ho, e1, e2, r⟩ := w.live n u e
    have hF : ¬ F a := fun z => (w.away a z).2 ⟨n, u, e, e1⟩
    exact ⟨a, ho, e1, (h a hF).trans e2, r.mono (fun b hb m => ⟨h b fun z => m (.inr z), m⟩) fun _ _ h => h⟩
  inj := w.inj
  away := fun a z => ⟨hs a (w.away a z).1, (w.away a z).2⟩
theorem rvs_of_list {α : Type} {f : α → PV} {g : α → V} : ∀ {l : List α}, (∀ x ∈ l, RV K H φ M (f x) (g x)) → RVs K H φ M (l.map f) (l.map g)
  | [], _ => .nil
  | x :: l, h => .cons (h x List.mem_cons_self) (rvs_of_list fun y hy => h y (List.mem_cons_of_mem _ hy))
theorem sn_sortKey {t : TA} {f : FA} {fk : Fn} {x : Str} (a : SimAB K pv E t f) : SimN K pv E (tCKw (rSortKey K (ga K x) (spF K 1 fk)) t (tCons (tC (.ref (ga K x))) tNil)) (sortKeyN fk f) := fun H φ S F O η σ Q w hO re h => by
  refine a H φ S F O η σ _ w hO re (h.bind.imp fun ps φ1 S1 H1 e1 w1 h1 xs rs => ?_)
  show rSortKey K (ga K x) (spF K 1 fk) xs [.ref (ga K x)] H1 Q
  split at h1
  · rename_i p
    obtain ⟨v, rfl, r⟩ := rs.one
    cases e : litems p S1 with
    | none => rw [e] at h1; exact (show False from h1).elim
    | some ys =>
      rw [e] at h1
      obtain ⟨b, vs, rfl, h2, r1⟩ := litems_ok w1 r e
      refine ⟨b, vs, rfl, rfl, h2, fun L kS oL nL nk ne => ?_⟩
      dsimp only at h1
      generalize hr0 : mapK fk ys [] S1 = r0 at h1
      have k0 : ∀ a, H1 a ≠ none → ¬ uni (Lv φ1 S1) F a → upd (upd H1 L (.frz oL (.lst []))) kS (.lst []) a = H1 a ∧ ¬ uni (Lv φ1 S1) (uni F (at2 L kS)) a := fun a ha m => by
        have n1 : a ≠ L := fun z => ha (by rw [z]; exact nL)
        have n2 : a ≠ kS := fun z => ha (by rw [z]; exact nk)
        exact ⟨(upd_ne n2).trans (upd_ne n1), fun z => z.elim (fun z => m (.inl z)) fun z => z.elim (fun z => m (.inr z)) fun z => z.elim n1 n2⟩
      have w0 : WF K (upd (upd H1 L (.frz oL (.lst []))) kS (.lst [])) φ1 S1 (uni F (at2 L kS)) := by
        refine ⟨w1.len, fun n u e => ?_, w1.inj, fun a z => ?_⟩
        · obtain ⟨a, ho, q1, q2, r⟩ := w1.live n u e
          have n1 : a ≠ L := fun z => by rw [z, nL] at q2; cases q2
          have n2 : a ≠ kS := fun z => by rw [z, nk] at q2; cases q2
          exact ⟨a, ho, q1, ((upd_ne n2).trans (upd_ne n1)).trans q2, r.mono k0 fun _ _ h => h⟩
        · rcases z with z | z | z
          · obtain ⟨q1, q2⟩ := w1.away a z
            have n1 : a ≠ L := fun z => q1 (by rw [z]; exact nL)
            have n2 : a ≠ kS := fun z => q1 (by rw [z]; exact nk)
            exact ⟨by rw [upd_ne n2, upd_ne n1]; exact q1, q2⟩
          · rw [z]
            exact ⟨by rw [upd_ne ne.symm, upd_same]; nofun, lv_none w1 nL⟩
          · rw [z]
            exact ⟨by rw [upd_same]; nofun, lv_none w1 nk⟩
      have ev0 : Ev H1 φ1 (Lv φ1 S1) (upd (upd H1 L (.frz oL (.lst []))) kS (.lst [])) φ1 (Lv φ1 S1) := ⟨fun a ha => by
          have n1 : a ≠ L := fun z => ha (by rw [z]; exact nL)
          have n2 : a ≠ kS := fun z => ha (by rw [z]; exact nk)
          rw [upd_ne n2, upd_ne n1]; exact ha, fun a ha m => by
          have n1 : a ≠ L := fun z => ha (by rw [z]; exact nL)
          have n2 : a ≠ kS := fun z => ha (by rw [z]; exact nk)
          exact ⟨(upd_ne n2).trans (upd_ne n1), m⟩, fun _ _ h => h⟩
      refine ⟨fun i H' => i ≤ ys.length ∧ ∃ φ' S' acc us, r0 = mapK fk (ys.drop i) acc S' ∧ Ev H1 φ1 (Lv φ1 S1) H' φ' (Lv φ' S') ∧ WF K H' φ' S' (uni F (at2 L kS)) ∧ H' L = some (.frz oL (.lst [])) ∧ H' kS = some (.lst us) ∧ us.length = i ∧ RVs K H' φ' (uni (Lv φ' S') (uni F (at2 L kS))) acc us,
        ⟨Nat.zero_le _, φ1, S1, [], [], by rw [List.drop_zero]; exact hr0.symm, ev0, w0, by rw [upd_ne ne.symm, upd_same], upd_same, rfl, .nil⟩, ?_, ?_⟩
      · rintro i v H' hv ⟨hi, φ', S', acc, us, eq, ev, ws, hL, hk, hl, hr⟩
        have hvs := r1.len
        have hlt : i < ys.length := by
          have := (List.getElem?_eq_some_iff.mp hv).1
          omega
        obtain ⟨v', hv', rv⟩ := r1.get (List.getElem?_eq_getElem hlt)
        rw [hv] at hv'
        cases hv'
        have kk : ∀ a, H1 a ≠ none → ¬ uni (Lv φ1 S1) F a → H' a = H1 a ∧ ¬ uni (Lv φ' S') (uni F (at2 L kS)) a := fun a h m => by
          obtain ⟨q2, m2⟩ := ev.keep a h fun z => m (.inl z)
          have n1 : a ≠ L := fun z => h (by rw [z]; exact nL)
          have n2 : a ≠ kS := fun z => h (by rw [z]; exact nk)
          exact ⟨q2, fun z => z.elim m2 fun z => z.elim (fun z => m (.inr z)) fun z => z.elim n1 n2⟩
        rw [List.drop_eq_getElem_cons hlt] at eq
        unfold mapK at eq
        refine ⟨φ', S', uni F (at2 L kS), [ys[i]], rfl, ws, .cons (rv.mono kk ev.pre) .nil, ?_⟩
        cases q : fk [ys[i]] S' with
        | stuck => rw [q] at eq; rw [eq] at h1; exact (show False from h1).elim
        | exc c fs S4 => rw [q] at eq; rw [eq] at h1; exact (show False from h1).elim
        | ok k S4 =>
          rw [q] at eq
          dsimp only [pureR, R.bind_ok] at eq
          intro φ4 H4 ev4 w4 kv rk
          have hal : acc.length = i := by rw [← hr.len, hl]
          split at eq
          · have l4 : H4 L = some (.frz oL (.lst [])) := (ev4.keep L (by rw [hL]; nofun) (ws.away L (.inr (.inl rfl))).2).1.trans hL
            have k4 : H4 kS = some (.lst us) := (ev4.keep kS (by rw [hk]; nofun) (ws.away kS (.inr (.inr rfl))).2).1.trans hk
            have r4 := ev4.rvs hr
            have kw : ∀ a, H4 a ≠ none → ¬ uni (Lv φ4 S4) (uni F (at2 L kS)) a → upd H4 kS (.lst (us ++ [kv])) a = H4 a ∧ ¬ uni (Lv φ4 S4) (uni F (at2 L kS)) a := fun a h m => ⟨upd_ne fun z => m (.inr (.inr (.inr z))), m⟩
            have sw : ∀ a, H4 a ≠ none → upd H4 kS (.lst (us ++ [kv])) a ≠ none := fun a h => by
              by_cases e : a = kS
              · subst e; rw [upd_same]; nofun
              · rw [upd_ne e]; exact h
            have ev14 := ev.trans ev4
            refine ⟨us, l4, k4, hl, hlt, φ4, S4, acc ++ [k], us ++ [kv], eq, ⟨fun a h => sw a (ev14.stay a h), fun a h m => ?_, ev14.pre⟩, w4.chg (fun a m => upd_ne fun z => m (.inr (.inr z))) sw, by rw [upd_ne ne.symm]; exact l4, upd_same, by rw [List.length_append, hl] <;> rfl, (r4.append (.cons rk .nil)).mono kw fun _ _ h => h⟩
            obtain ⟨q, m'⟩ := ev14.keep a h m
            exact ⟨(upd_ne fun z => h (by rw [z]; exact nk)).trans q, m'⟩
          · rw [eq] at h1
            exact (show False from h1).elim
      · rintro H' ⟨hi, φ', S', acc, us, eq, ev, ws, hL, hk, hl, hr⟩
        have hvs := r1.len
        rw [hvs, List.drop_length] at eq
        unfold mapK at eq
        rw [eq] at h1
        have h1 : GoE K (E σ) F H1 φ1 S1 (match tupsL acc with
          | some kz => R.ok (byKeys kz ys) S'
          | none => .stuck) _ := h1
        cases ek : tupsL acc with
        | none => rw [ek] at h1; exact (show False from h1).elim
        | some kz =>
          rw [ek] at h1
          obtain ⟨t1, t2⟩ := tups_of ek hr
          have lz : us.length = vs.length := hl
          refine ⟨us, ltI H', hL, hk, hl, swo_ltI H', keys_tup t2, fun ps' hs hb => ?_⟩
          -- what the list is
          have O2 : Swo (fun p q : V × V => ltI H' p.1 q.1) := ⟨fun x y => (swo_ltI H').asym x.1 y.1, fun x y z => (swo_ltI H').tr x.1 y.1 z.1⟩
          have O3 : Swo (fun p q : (List Int × PV) × (V × V) => ltI H' p.2.1 q.2.1) := ⟨fun x y => (swo_ltI H').asym x.2.1 y.2.1, fun x y z => (swo_ltI H').tr x.2.1 y.2.1 z.2.1⟩
          have lk : kz.length = us.length := by rw [← t1, List.length_map]
          have z1 : (kz.zip ys).length = ys.length := by rw [List.length_zip, lk, lz, hvs, Nat.min_self]
          have z2 : (us.zip vs).length = ys.length := by rw [List.length_zip, lz, hvs, Nat.min_self]
          have m1 : ((kz.zip ys).zip (us.zip vs)).map (·.1) = kz.zip ys := List.map_fst_zip (by omega)
          have m2 : ((kz.zip ys).zip (us.zip vs)).map (·.2) = us.zip vs := List.map_snd_zip (by omega)
          have kk : ∀ a, H1 a ≠ none → ¬ uni (Lv φ1 S1) F a → H' a = H1 a ∧ ¬ uni (Lv φ' S') (uni F (at2 L kS)) a := fun a h m => by
            obtain ⟨q2, m2⟩ := ev.keep a h fun z => m (.inl z)
            have n1 : a ≠ L := fun z => h (by rw [z]; exact nL)
            have n2 : a ≠ kS := fun z => h (by rw [z]; exact nk)
            exact ⟨q2, fun z => z.elim m2 fun z => z.elim (fun z => m (.inr z)) fun z => z.elim n1 n2⟩
          have each : ∀ q ∈ (kz.zip ys).zip (us.zip vs), intsV H' q.2.1 = q.1.1 ∧ RV K H' φ' (uni (Lv φ' S') (uni F (at2 L kS))) q.1.2 q.2.2 := fun q hq => by
            obtain ⟨i, hi, e⟩ := List.getElem_of_mem hq
            have b1 : i < kz.length := by rw [List.length_zip, List.length_zip] at hi; omega
            have b2 : i < ys.length := by rw [List.length_zip, List.length_zip] at hi; omega
            have b3 : i < us.length := by omega
            have b4 : i < vs.length := by omega
            rw [List.getElem_zip, List.getElem_zip, List.getElem_zip] at e
            subst e
            constructor
            · have q := congrArg (·[i]?) t1
              simp only [List.getElem?_map, List.getElem?_eq_getElem b3, List.getElem?_eq_getElem b1, Option.map_some] at q
              exact Option.some.inj q
            · obtain ⟨v', hv', rv⟩ := r1.get (List.getElem?_eq_getElem b2)
              rw [List.getElem?_eq_getElem b4] at hv'
              cases hv'
              exact rv.mono kk ev.pre
          generalize (kz.zip ys).zip (us.zip vs) = T at m1 m2 each
          have hps : ps' = (ksort (fun p q : (List Int × PV) × (V × V) => ltI H' p.2.1 q.2.1) T).map (·.2) := by
            refine stb_uniq O2 hs (srtd_map (f := fun p : (List Int × PV) × (V × V) => p.2) (ksort_srtd O3 T)) (hb.trans (stb_symm ?_))
            have q := Stb.map O2 (fun p : (List Int × PV) × (V × V) => p.2) (ksort_stb O3 T)
            rw [m2] at q
            exact q
          have hby : byKeys kz ys = (ksort (fun p q : (List Int × PV) × (V × V) => ltI H' p.2.1 q.2.1) T).map fun q => q.1.2 := by
            unfold byKeys
            rw [← m1, ksort_map (lt2 := fun p q : (List Int × PV) × (V × V) => ltI H' p.2.1 q.2.1) fun x hx y hy => by
              show lexI x.1.1 y.1.1 = lexI (intsV H' x.2.1) (intsV H' y.2.1)
              rw [(each x hx).1, (each y hy).1], List.map_map]
            rfl
          have hmem : ∀ q ∈ ksort (fun p q : (List Int × PV) × (V × V) => ltI H' p.2.1 q.2.1) T, q ∈ T := fun q hq => (ksort_stb O3 T).perm.mem_iff.mp hq
          have rout : RVs K H' φ' (uni (Lv φ' S') (uni F (at2 L kS))) (byKeys kz ys) (ps'.map (·.2)) := by
            rw [hby, hps, List.map_map]
            exact rvs_of_list fun q hq => (each q (hmem q hq)).2
          -- the end
          have same : ∀ a, a ≠ L → a ≠ kS → upd (upd (upd H' L (.lst [])) kS (.lst [])) L (.lst (ps'.map (·.2))) a = H' a := fun a n1 n2 => (upd_ne n1).trans ((upd_ne n2).trans (upd_ne n1))
          have stay : ∀ a, H' a ≠ none → upd (upd (upd H' L (.lst [])) kS (.lst [])) L (.lst (ps'.map (·.2))) a ≠ none := fun a ha => by
            by_cases n1 : a = L
            · rw [n1, upd_same]; nofun
            · by_cases n2 : a = kS
              · rw [n2, upd_ne ne, upd_same]; nofun
              · rw [same a n1 n2]; exact ha
          have wEnd := ws.chg (H' := upd (upd (upd H' L (.lst [])) kS (.lst [])) L (.lst (ps'.map (·.2)))) (fun a m => same a (fun z => m (.inr (.inl z))) fun z => m (.inr (.inr z))) stay
          have evEnd : Ev H1 φ1 (Lv φ1 S1) (upd (upd (upd H' L (.lst [])) kS (.lst [])) L (.lst (ps'.map (·.2)))) φ' (Lv φ' S') := ⟨fun a h => stay a (ev.stay a h), fun a h m => by
            have n1 : a ≠ L := fun z => h (by rw [z]; exact nL)
            have n2 : a ≠ kS := fun z => h (by rw [z]; exact nk)
            obtain ⟨q, m'⟩ := ev.keep a h m
            exact ⟨(same a n1 n2).trans q, m'⟩, ev.pre⟩
          have nL0 : H L = none := by
            cases q : H L with
            | none => rfl
            | some o => exact (e1.stay L (by rw [q]; nofun) nL).elim
          have less1 : ∀ a, uni F (at1 L) a → uni F (at2 L kS) a := fun a z => z.imp id .inl
          refine h1 φ' _ evEnd (wEnd.less fun a z => .inl z) L _ nL0 (wEnd.less less1) upd_same ?_
          exact (rout.mono (fun a ha m => ⟨same a (fun z => m (.inr (.inr (.inl z)))) fun z => m (.inr (.inr (.inr z))), m⟩) fun _ _ h => h).less fun a z => z.imp id (less1 a)
  · exact h1.elim
end
/-- sorted(e, key=f) -/
theorem pe_sortKey {X : Cx} {K : PySem.W.Frag} {k : Nat} {nm fn : Str} {p p2 kp pos : Pos} {e : Expr} {t : TA} {ps : List Str} {sp : Sp} (G : Hk.GOk X.prog X.w X.K X.mg X.base (L2N.CX X.prog X.w) k fn ps sp) (hr : Room (k + 2) X.A) (hg : Gl X nm) (hm : X.mg nm = none) (hv : bootBuiltins nm = some (.builtin "sorted")) (ha : PA X [e] t) (hgf : Gl X fn)
    (hn : nm ≠ "__name__" := by decide) (hdb : (nm == ("__debug__" : Str)) = false := by decide) (hdf : (fn == ("__debug__" : Str)) = false := by decide) (hK : X.K = K := by rfl)
    (he : backTo pos (starEach [e] X.env) = (false, eval e X.env) :: backTo pos (starEach [] X.env) := by rfl) (hpl : (backTo pos (starEach [e] X.env)).any (·.1) = false := by rfl)
    (hall : (backToKw pos (keywordEach [⟨some (Str.ofString "key"), .Name fn p2, kp⟩] X.env)).all (·.1.isSome) = true := by rfl) (hnone : (backToKw pos (keywordEach [⟨some (Str.ofString "key"), .Name fn p2, kp⟩] X.env)).any (·.1.isNone) = false := by rfl) (hks : (backToKw pos (keywordEach [⟨some (Str.ofString "key"), .Name fn p2, kp⟩] X.env)).filterMap (·.1) = [Str.ofString "key"] := by rfl) :
    PE X (.Call (.Name nm p) [e] [⟨some (Str.ofString "key"), .Name fn p2, kp⟩] pos) (tCKw (rSortKey K (ga K fn) sp) t (tCons (tC (.ref (ga K fn))) tNil)) := by
  subst hK
  obtain ⟨fd, h1, h2, h3⟩ := G.ex
  exact pe_callBK (cr_sortKey h3 hr h2 passN0) hg hm hv ha (pk_cons (pe_glob hgf G.g rfl hdf) pk_nil) hn hdb he hpl hall hnone hks
end Fu

end
section
set_option Elab.async false
set_option linter.all false
set_option maxRecDepth 100000
set_option maxHeartbeats 4000000
/-! A text a number of times. -/
namespace Fu
open PySem PySem.Spec PyProof.Rows L2
def repS (z : Str) (n : Nat) : Str := ⟨(List.replicate n z.cps).foldl (· ++ ·) #[]⟩
def rMulS : R2 := fun x y H Q => ∃ (z : Str) (j : Int), x = .str z ∧ y = .int j ∧ (2 ≤ j ∧ j ≤ 1000000) ∧ 1 ≤ z.length ∧ z.length * j.toNat ≤ 1000000 ∧ Q (.str (repS z j.toNat)) H
theorem len_fold : ∀ (l : List (Array Nat)) (a : Array Nat), (l.foldl (· ++ ·) a).toList = a.toList ++ (l.map Array.toList).flatten
  | [], a => by simp
  | x :: l, a => by
    rw [List.foldl_cons, len_fold l (a ++ x)]
    simp
theorem repS_list (z : Str) (n : Nat) : (repS z n).cps.toList = (List.replicate n z.cps.toList).flatten := by
  unfold repS
  rw [len_fold]
  simp
theorem repS_len (z : Str) (n : Nat) : (repS z n).length = n * z.length := by
  have h1 : (repS z n).length = (repS z n).cps.toList.length := by rw [Array.length_toList]; rfl
  have h2 : z.cps.toList.length = z.length := by rw [Array.length_toList]; rfl
  rw [h1, repS_list]
  clear h1
  induction n with
  | zero => simp
  | succ n ih =>
    rw [List.replicate_succ, List.flatten_cons, List.length_append, ih, h2, Nat.succ_mul]
    omega
theorem op_mulS {X : Cx} : OpR X (binaryOp .Mult) rMulS := by
  intro pins s σ H x y v u Q I rx ry h
  obtain ⟨z, j, rfl, rfl, ⟨h2, h3⟩, h1, hl, q⟩ := h
  obtain ⟨t, rfl⟩ := rx
  obtain ⟨t', rfl⟩ := ry
  have e1 : (j == 1) = false := by
    have : j ≠ 1 := by omega
    simpa using this
  have e2 : (z.length == 0) = false := by
    have : z.length ≠ 0 := by omega
    simpa using this
  have e3 : (j == 1 || z.length == 0) = false := by rw [e1, e2]; rfl
  have long : Builtin.Str.tooLong (z.length * j.toNat) = false := by
    unfold Builtin.Str.tooLong
    have : z.length * j.toNat ≤ sizeLine := million hl
    simpa using this
  have hr : (decide (j < -(2 ^ 63 : Int)) || decide (j ≥ 2 ^ 63)) = false := by
    have a : ¬ j < -(2 ^ 63 : Int) := by omega
    have b : ¬ j ≥ 2 ^ 63 := by omega
    rw [decide_eq_false a, decide_eq_false b]
    rfl
  refine P.mul_str hr (fun _ _ => ?_) (fun _ _ => long) ?_
  · have hz : (z.length : Int) ≤ 1000000 := by
      have : z.length ≤ z.length * j.toNat := Nat.le_mul_of_pos_right _ (by omega)
      omega
    have hd : (1000000 : Int) ≤ (2 ^ 63 - 1) / j := by
      refine (Int.le_ediv_iff_mul_le (by omega)).mpr ?_
      omega
    omega
  · rw [if_neg (by omega), e3, if_neg Bool.false_ne_true]
    refine ⟨?_, ?_⟩
    · show (repS z j.toNat).length ≤ sizeLine
      rw [repS_len, Nat.mul_comm]
      exact million hl
    · exact ⟨.str (repS z j.toNat), H, I.tok _, ⟨_, rfl⟩, q⟩
def rMulU : R2 := fun x y H Q => rI CMul (fun i j => .int (i * j)) x y H Q ∨ rMulS x y H Q
theorem op_mulU {X : Cx} : OpR X (binaryOp .Mult) rMulU := op_mul.or op_mulS
def mulUG : PV → PV → AS → R PV := fun p q S => match p, q with
  | .str z, .int j => if (2 ≤ j ∧ j ≤ 1000000) ∧ 1 ≤ z.length ∧ z.length * j.toNat ≤ 1000000 then .ok (.str (repS z j.toNat)) S else .stuck
  | _, _ => mulG p q S
theorem sr_mulU {K : PySem.W.Frag} : SimR K rMulU mulUG := fun H φ S F O p q x y Q w hO rp rq h => by
  unfold mulUG at h
  split at h
  · split at h
    · rename_i hc
      obtain rfl := rp.str
      obtain rfl := rq.int
      exact .inr ⟨_, _, rfl, rfl, hc.1, hc.2.1, hc.2.2, h.ok w _ .str⟩
    · exact h.elim
  · exact .inl (sr_mul H φ S F O p q x y Q w hO rp rq h)
end Fu

end
section
set_option Elab.async false
set_option linter.all false
set_option maxRecDepth 100000
set_option maxHeartbeats 4000000
/-! A suspended generator that nobody wakes: what holds with all suspended generators put to a sleep from which nothing wakes them holds with them as they are, and they stay as they are. -/
namespace Asl
open PySem PySem.Spec GenW PyProof.Rows
open Sem (wp)
def NoGen (fs : List Frame) : Prop := splitAtGen fs = none
theorem noGen_nil : NoGen [] := rfl
theorem split_cons {F : Frame} {fs : List Frame} (h : NoGen (F :: fs)) : NoGen fs := by
  unfold NoGen at *
  cases F with
  | ret k h0 g l c p kp =>
    simp only [splitAtGen] at h
    cases e : splitAtGen fs with
    | none => rfl
    | some x => rw [e] at h; cases h
  | gen g k l c p => simp [splitAtGen] at h
theorem split_app {fs gs : List Frame} (h : NoGen fs) (h2 : NoGen gs) : NoGen (fs ++ gs) := by
  induction fs with
  | nil => exact h2
  | cons F fs ih =>
    have i := ih (split_cons h)
    unfold NoGen at *
    cases F with
    | ret k h0 g l c p kp =>
      show (splitAtGen (fs ++ gs)).map _ = none
      rw [i]
      rfl
    | gen g k l c p => simp [splitAtGen] at h
def cleanG : GenState → Prop
  | .suspended _ _ _ _ fs _ => NoGen fs
  | _ => True
def cleanE : End → Prop
  | .susp _ _ _ _ _ _ fs => NoGen fs
  | _ => True
theorem cleanE.gen {e : End} (h : cleanE e) : cleanG e.genState := by
  cases e with
  | ret _ => trivial
  | susp v g l k c p fs => exact h
/-- asleep for good -/
def stuckG : GenState → Prop
  | .suspended k _ _ _ _ _ => ∀ r, ∃ w, k r = .unsupported w
  | _ => False
abbrev Bd := Nat → Option (GenState × GenState)
structure Sim (B : Bd) (s u : Shared) : Prop where
  eq : u = { s with gens := u.gens }
  size : u.gens.size = s.gens.size
  rel : ∀ i x y, s.gens[i]? = some x → u.gens[i]? = some y → B i = some (x, y) ∨ (B i = none ∧ x = y ∧ cleanG x)
  dom : ∀ i b, B i = some b → i < s.gens.size
variable {M : Model} {B : Bd}
theorem Sim.get {s u : Shared} (h : Sim B s u) {i : Nat} {x : GenState} (e : s.gens[i]? = some x) : ∃ y, u.gens[i]? = some y ∧ (B i = some (x, y) ∨ (B i = none ∧ x = y ∧ cleanG x)) := by
  have hl : i < s.gens.size := (Array.getElem?_eq_some_iff.mp e).1
  have hl' : i < u.gens.size := by rw [h.size]; exact hl
  exact ⟨u.gens[i], Array.getElem?_eq_getElem hl', h.rel i x _ e (Array.getElem?_eq_getElem hl')⟩
theorem Sim.upd {s u : Shared} (h : Sim B s u) {hp : Heap} {d : Drawn} {tk : Nat} {o : OsState} : Sim B { s with heap := hp, drawn := d, toks := tk, os := o } { u with heap := hp, drawn := d, toks := tk, os := o } :=
  ⟨rfl, h.size, h.rel, h.dom⟩
theorem Sim.set {s u : Shared} (h : Sim B s u) {g : Nat} {x : GenState} (hg : B g = none) (hx : cleanG x) : Sim B (s.setGen g x) (u.setGen g x) := by
  have e := h.eq
  refine ⟨?_, ?_, fun i a b ea eb => ?_, fun i b q => ?_⟩
  · show Shared.mk u.heap _ u.drawn u.toks u.os = Shared.mk s.heap _ s.drawn s.toks s.os
    rw [e]
    rfl
  · show (u.gens.setIfInBounds g x).size = (s.gens.setIfInBounds g x).size
    simp [h.size]
  · have ea : (s.gens.setIfInBounds g x)[i]? = some a := ea
    have eb : (u.gens.setIfInBounds g x)[i]? = some b := eb
    by_cases hi : g = i
    · subst hi
      rw [Array.getElem?_setIfInBounds_self] at ea eb
      split at ea
      · split at eb
        · cases ea
          cases eb
          exact .inr ⟨hg, rfl, hx⟩
        · cases eb
      · cases ea
    · rw [Array.getElem?_setIfInBounds_ne hi] at ea eb
      exact h.rel i a b ea eb
  · show i < (s.gens.setIfInBounds g x).size
    rw [Array.size_setIfInBounds]
    exact h.dom i b q
theorem Sim.push {s u : Shared} (h : Sim B s u) {c : Code} : Sim B { s with gens := s.gens.push (.fresh c) } { u with gens := u.gens.push (.fresh c) } := by
  have e := h.eq
  refine ⟨?_, ?_, fun i a b ea eb => ?_, fun i b q => ?_⟩
  · show Shared.mk u.heap _ u.drawn u.toks u.os = Shared.mk s.heap _ s.drawn s.toks s.os
    rw [e]
  · show (u.gens.push (.fresh c)).size = (s.gens.push (.fresh c)).size
    rw [Array.size_push, Array.size_push, h.size]
  · have ea : (s.gens.push (.fresh c))[i]? = some a := ea
    have eb : (u.gens.push (.fresh c))[i]? = some b := eb
    rw [Array.getElem?_push] at ea eb
    rw [h.size] at eb
    by_cases hi : i = s.gens.size
    · rw [if_pos hi] at ea eb
      cases ea
      cases eb
      refine .inr ⟨?_, rfl, trivial⟩
      cases q : B i with
      | none => rfl
      | some b =>
        have := h.dom i b q
        omega
    · rw [if_neg hi] at ea eb
      exact h.rel i a b ea eb
  · show i < (s.gens.push (.fresh c)).size
    rw [Array.size_push]
    exact Nat.lt_succ_of_lt (h.dom i b q)
theorem no_unsupported {Γ : PySem.Ctx} {p : Pos} {w : String} {fs : List Frame} {s s' : Shared} {e : End} : ¬ Runs M Γ p (.unsupported w) fs s e s' := by
  intro h
  generalize ht : (Sem.unsupported w : Sem PySem.Fin) = t at h
  induction h with
  | segRet _ _ ih _ => exact ih ht
  | segGen _ _ ih _ => exact ih ht
  | segSuspOut _ _ ih => exact ih ht
  | segSuspGen _ _ _ _ ih _ => exact ih ht
  | _ => cases ht
theorem Sim.heapEq {s u : Shared} (h : Sim B s u) : u.heap = s.heap := by rw [h.eq]
theorem Sim.toksEq {s u : Shared} (h : Sim B s u) : u.toks = s.toks := by rw [h.eq]
theorem Sim.drawnEq {s u : Shared} (h : Sim B s u) : u.drawn = s.drawn := by rw [h.eq]
theorem Sim.osEq {s u : Shared} (h : Sim B s u) : u.os = s.os := by rw [h.eq]
theorem Sim.heap {s u : Shared} (h : Sim B s u) (hp : Heap) : Sim B { s with heap := hp } { u with heap := hp } := ⟨by have e := h.eq; show Shared.mk hp u.gens u.drawn u.toks u.os = Shared.mk hp u.gens s.drawn s.toks s.os; rw [h.drawnEq, h.toksEq, h.osEq], h.size, h.rel, h.dom⟩
theorem Sim.toks {s u : Shared} (h : Sim B s u) (t : Nat) : Sim B { s with toks := t } { u with toks := t } := ⟨by show Shared.mk u.heap u.gens u.drawn t u.os = Shared.mk s.heap u.gens s.drawn t s.os; rw [h.drawnEq, h.heapEq, h.osEq], h.size, h.rel, h.dom⟩
theorem Sim.drawn {s u : Shared} (h : Sim B s u) (d : Drawn) : Sim B { s with drawn := d } { u with drawn := d } := ⟨by show Shared.mk u.heap u.gens d u.toks u.os = Shared.mk s.heap u.gens d s.toks s.os; rw [h.toksEq, h.heapEq, h.osEq], h.size, h.rel, h.dom⟩
theorem Sim.os {s u : Shared} (h : Sim B s u) (o) : Sim B { s with os := o } { u with os := o } := ⟨by show Shared.mk u.heap u.gens u.drawn u.toks o = Shared.mk s.heap u.gens s.drawn s.toks o; rw [h.toksEq, h.heapEq, h.drawnEq], h.size, h.rel, h.dom⟩
/-- who is woken is not asleep for good -/
theorem Sim.awake {s u : Shared} (hB : ∀ i b, B i = some b → stuckG b.1 ∧ b.1.seen = b.2.seen) (h : Sim B s u) {g : Nat} {x : GenState} (e : s.gens[g]? = some x) (n : ¬ stuckG x) : u.gens[g]? = some x ∧ B g = none ∧ cleanG x := by
  obtain ⟨y, e2, q | ⟨q, rfl, c⟩⟩ := h.get e
  · exact absurd (hB g _ q).1 n
  · exact ⟨e2, q, c⟩
theorem runs_sim (hB : ∀ i b, B i = some b → stuckG b.1 ∧ b.1.seen = b.2.seen) {Γ : PySem.Ctx} {p : Pos} {t : Sem PySem.Fin} {fs : List Frame} {s s' : Shared} {e : End} (h : Runs M Γ p t fs s e s') :
    NoGen fs → ∀ u, Sim B s u → ∃ u', Runs M Γ p t fs u e u' ∧ Sim B s' u' ∧ cleanE e := by
  induction h with
  | done => intro _ u hs; exact ⟨u, .done, hs, trivial⟩
  | raise => intro _ u hs; exact ⟨u, .raise, hs, trivial⟩
  | again q _ ih => intro n u hs; obtain ⟨u', r, z⟩ := ih rfl u hs; exact ⟨u', .again q r, z⟩
  | rule _ ih => intro n u hs; obtain ⟨u', r, z⟩ := ih rfl u hs; exact ⟨u', .rule r, z⟩
  | «at» _ ih => intro n u hs; obtain ⟨u', r, z⟩ := ih rfl u hs; exact ⟨u', .at r, z⟩
  | load q _ ih => intro n u hs; obtain ⟨u', r, z⟩ := ih rfl u hs; exact ⟨u', .load (by rw [hs.heapEq]; exact q) r, z⟩
  | update q _ ih =>
    intro n u hs
    obtain ⟨u', r, z⟩ := ih rfl _ (hs.heap _)
    refine ⟨u', .update (by rw [hs.heapEq]; exact q) ?_, z⟩
    rw [hs.heapEq]
    exact r
  | loadIfAlive _ ih => intro n u hs; obtain ⟨u', r, z⟩ := ih rfl u hs; exact ⟨u', .loadIfAlive (by rw [hs.heapEq]; exact r), z⟩
  | point _ ih => intro n u hs; obtain ⟨u', r, z⟩ := ih rfl u hs; exact ⟨u', .point r, z⟩
  | alloc _ ih =>
    intro n u hs
    obtain ⟨u', r, z⟩ := ih rfl _ (hs.heap _)
    refine ⟨u', .alloc ?_, z⟩
    rw [hs.heapEq]
    exact r
  | fresh _ ih =>
    intro n u hs
    obtain ⟨u', r, z⟩ := ih rfl _ (hs.toks _)
    refine ⟨u', .fresh ?_, z⟩
    rw [hs.toksEq]
    exact r
  | ask _ ih => intro n u hs; obtain ⟨u', r, z⟩ := ih rfl u hs; exact ⟨u', .ask r, z⟩
  | choose q _ ih =>
    intro n u hs
    obtain ⟨u', r, z⟩ := ih rfl _ (hs.drawn _)
    refine ⟨u', .choose q ?_, z⟩
    rw [hs.drawnEq]
    exact r
  | os _ ih =>
    intro n u hs
    obtain ⟨u', r, z⟩ := ih rfl _ (hs.os _)
    refine ⟨u', .os ?_, z⟩
    rw [hs.osEq]
    exact r
  | handled _ ih => intro n u hs; obtain ⟨u', r, z⟩ := ih rfl u hs; exact ⟨u', .handled r, z⟩
  | genState q _ ih =>
    intro n u hs
    obtain ⟨u', r, z⟩ := ih rfl u hs
    obtain ⟨y, e2, b⟩ := hs.get q
    refine ⟨u', .genState e2 ?_, z⟩
    rcases b with b | ⟨_, rfl, _⟩
    · rw [← (hB _ _ b).2]
      exact r
    · exact r
  | stack _ ih => intro n u hs; obtain ⟨u', r, z⟩ := ih rfl u hs; exact ⟨u', .stack r, z⟩
  | thread _ ih => intro n u hs; obtain ⟨u', r, z⟩ := ih rfl u hs; exact ⟨u', .thread r, z⟩
  | newGen _ ih =>
    intro n u hs
    obtain ⟨u', r, z⟩ := ih rfl _ hs.push
    refine ⟨u', .newGen ?_, z⟩
    rw [hs.size]
    exact r
  | call _ _ ih1 ih2 =>
    intro n u hs
    obtain ⟨u1, r1, z1, _⟩ := ih1 rfl u hs
    obtain ⟨u2, r2, z2⟩ := ih2 rfl u1 z1
    exact ⟨u2, .call r1 r2, z2⟩
  | callSusp _ ih =>
    intro n u hs
    obtain ⟨u1, r1, z1, c⟩ := ih rfl u hs
    exact ⟨u1, .callSusp r1, z1, split_app c rfl⟩
  | yield => intro _ u hs; exact ⟨u, .yield, hs, rfl⟩
  | resumeFresh q _ hq _ ih1 ih2 =>
    intro n u hs
    obtain ⟨e2, b, _⟩ := hs.awake hB q (fun z => z.elim)
    obtain ⟨u1, r1, z1, c1⟩ := ih1 rfl _ (hs.set b trivial)
    obtain ⟨u2, r2, z2⟩ := ih2 rfl _ (z1.set b c1.gen)
    exact ⟨u2, .resumeFresh e2 r1 hq r2, z2⟩
  | resumeSuspended q h1 hq _ ih1 ih2 =>
    intro n u hs
    obtain ⟨e2, b, cl⟩ := hs.awake hB q (fun z => by
      obtain ⟨w, ew⟩ := z _
      rw [ew] at h1
      exact no_unsupported h1)
    obtain ⟨u1, r1, z1, c1⟩ := ih1 cl _ (hs.set b trivial)
    obtain ⟨u2, r2, z2⟩ := ih2 rfl _ (z1.set b c1.gen)
    exact ⟨u2, .resumeSuspended e2 r1 hq r2, z2⟩
  | resumeJustStarted q v _ ih =>
    intro n u hs
    obtain ⟨e2, b, _⟩ := hs.awake hB q (fun z => z.elim)
    obtain ⟨u', r, z⟩ := ih rfl u hs
    exact ⟨u', .resumeJustStarted e2 v r, z⟩
  | resumeThrowFresh q _ ih =>
    intro n u hs
    obtain ⟨e2, b, _⟩ := hs.awake hB q (fun z => z.elim)
    obtain ⟨u', r, z⟩ := ih rfl _ (hs.set b trivial)
    exact ⟨u', .resumeThrowFresh e2 r, z⟩
  | resumeRunning q _ ih =>
    intro n u hs
    obtain ⟨e2, b, _⟩ := hs.awake hB q (fun z => z.elim)
    obtain ⟨u', r, z⟩ := ih rfl u hs
    exact ⟨u', .resumeRunning e2 r, z⟩
  | resumeFinished q _ ih =>
    intro n u hs
    obtain ⟨e2, b, _⟩ := hs.awake hB q (fun z => z.elim)
    obtain ⟨u', r, z⟩ := ih rfl u hs
    exact ⟨u', .resumeFinished e2 r, z⟩
  | segRet _ _ ih1 ih2 =>
    intro n u hs
    obtain ⟨u1, r1, z1, _⟩ := ih1 rfl u hs
    obtain ⟨u2, r2, z2⟩ := ih2 (split_cons n) u1 z1
    exact ⟨u2, .segRet r1 r2, z2⟩
  | segGen _ _ _ _ => intro n; cases n
  | segSuspOut q _ ih =>
    intro n u hs
    obtain ⟨u1, r1, z1, c⟩ := ih rfl u hs
    exact ⟨u1, .segSuspOut q r1, z1, split_app c n⟩
  | segSuspGen q _ _ _ _ _ => intro n; unfold NoGen at n; rw [n] at q; cases q
theorem returns_sim (hB : ∀ i b, B i = some b → stuckG b.1 ∧ b.1.seen = b.2.seen) {Γ : PySem.Ctx} {p : Pos} {s s' u : Shared} {r : Result} (h : Returns M Γ p s r s') (hs : Sim B s u) : ∃ u', Returns M Γ p u r u' ∧ Sim B s' u' := by
  obtain ⟨u', r, z, _⟩ := runs_sim hB h rfl u hs
  exact ⟨u', r, z⟩
theorem wakes_sim (hB : ∀ i b, B i = some b → stuckG b.1 ∧ b.1.seen = b.2.seen) {Γ : PySem.Ctx} {p : Pos} {g : Nat} {r : Resume} {s s' u : Shared} {res : GenResult} (h : Wakes M Γ p g r s res s') (hs : Sim B s u) : ∃ u', Wakes M Γ p g r u res u' ∧ Sim B s' u' := by
  unfold Wakes at h
  split at h
  · exact h.elim
  · rename_i c q
    obtain ⟨e2, b, _⟩ := hs.awake hB q (fun z => z.elim)
    split at h
    · obtain ⟨e₁, s₁, hr, hq, rfl, rfl⟩ := h
      obtain ⟨u1, r1, z1, c1⟩ := runs_sim hB hr rfl _ (hs.set b trivial)
      refine ⟨_, ?_, z1.set b c1.gen⟩
      unfold Wakes
      rw [e2]
      exact ⟨e₁, u1, r1, hq, rfl, rfl⟩
    · rename_i v hv
      obtain ⟨rfl, rfl⟩ := h
      refine ⟨u, ?_, hs⟩
      unfold Wakes
      rw [e2]
      cases v <;> first | exact ⟨rfl, rfl⟩ | exact absurd rfl hv
    · obtain ⟨rfl, rfl⟩ := h
      refine ⟨_, ?_, hs.set b trivial⟩
      unfold Wakes
      rw [e2]
      exact ⟨rfl, rfl⟩
  · rename_i q
    obtain ⟨e₁, s₁, hr, hq, rfl, rfl⟩ := h
    obtain ⟨e2, b, cl⟩ := hs.awake hB q (fun z => by
      obtain ⟨w, ew⟩ := z r
      rw [ew] at hr
      exact no_unsupported hr)
    obtain ⟨u1, r1, z1, c1⟩ := runs_sim hB hr cl _ (hs.set b trivial)
    refine ⟨_, ?_, z1.set b c1.gen⟩
    unfold Wakes
    rw [e2]
    exact ⟨e₁, u1, r1, hq, rfl, rfl⟩
  · rename_i q
    obtain ⟨e2, b, _⟩ := hs.awake hB q (fun z => z.elim)
    obtain ⟨rfl, rfl⟩ := h
    refine ⟨u, ?_, hs⟩
    unfold Wakes
    rw [e2]
    exact ⟨rfl, rfl⟩
  · rename_i q
    obtain ⟨e2, b, _⟩ := hs.awake hB q (fun z => z.elim)
    obtain ⟨rfl, rfl⟩ := h
    refine ⟨u, ?_, hs⟩
    unfold Wakes
    rw [e2]
    exact ⟨rfl, rfl⟩
theorem wp_sim (hB : ∀ i b, B i = some b → stuckG b.1 ∧ b.1.seen = b.2.seen) {α : Type} {Γ : PySem.Ctx} (t : Sem α) : ∀ (Q : α → Pos → Shared → Prop) (E : Value → Pos → Shared → Prop) (p : Pos) (s u : Shared), Sim B s u → wp M Γ t Q E p s →
    wp M Γ t (fun a p' u' => ∃ s', Sim B s' u' ∧ Q a p' s') (fun e p' u' => ∃ s', Sim B s' u' ∧ E e p' s') p u := by
  induction t with
  | pure a => intro Q E p s u hs h; exact ⟨s, hs, h⟩
  | raise e => intro Q E p s u hs h; exact ⟨s, hs, h⟩
  | unsupported _ => intro Q E p s u _ h; exact h
  | finish _ => intro Q E p s u _ h; exact h
  | rule _ k ih => intro Q E p s u hs h; exact ih () Q E p s u hs h
  | «at» p' k ih => intro Q E p s u hs h; exact ih () Q E p' s u hs h
  | load a _ k ih => intro Q E p s u hs h; obtain ⟨o, ho, h⟩ := h; exact ⟨o, by rw [hs.heapEq]; exact ho, ih o Q E p s u hs h⟩
  | update a _ f k ih =>
    intro Q E p s u hs h
    refine ⟨by rw [hs.heapEq]; exact h.1, ?_⟩
    have := ih () Q E p _ _ (hs.heap _) h.2
    rw [← hs.heapEq] at this
    exact this
  | loadIfAlive a k ih =>
    intro Q E p s u hs h
    have := ih _ Q E p s u hs h
    rw [← hs.heapEq] at this
    exact this
  | point _ k ih => intro Q E p s u hs h; exact ih () Q E p s u hs h
  | register _ _ => intro Q E p s u _ h; exact h
  | alloc o k ih =>
    intro Q E p s u hs h
    have := ih _ Q E p _ _ (hs.heap _) h
    rw [← hs.heapEq] at this
    exact this
  | fresh k ih =>
    intro Q E p s u hs h
    have := ih _ Q E p _ _ (hs.toks _) h
    rw [← hs.toksEq] at this
    exact this
  | ask k ih => intro Q E p s u hs h; exact ih _ Q E p s u hs h
  | choose src m k ih =>
    intro Q E p s u hs h
    have := ih _ Q E p _ _ (hs.drawn _) h.2
    rw [← hs.drawnEq] at this
    exact ⟨h.1, this⟩
  | os q _ k ih =>
    intro Q E p s u hs h
    have := ih _ Q E p _ _ (hs.os _) h
    rw [← hs.osEq] at this
    exact this
  | call c hd _ _ k ih =>
    intro Q E p s u hs h
    obtain ⟨r, s', hr, h⟩ := h
    obtain ⟨u', r', z⟩ := returns_sim hB hr hs
    exact ⟨r, u', r', ih r Q E p s' u' z h⟩
  | handled own k ih => intro Q E p s u hs h; exact ih _ Q E p s u hs h
  | genState g k ih =>
    intro Q E p s u hs h
    obtain ⟨st, q, h⟩ := h
    obtain ⟨y, e2, b⟩ := hs.get q
    refine ⟨y, e2, ?_⟩
    rcases b with b | ⟨_, rfl, _⟩
    · have := ih _ Q E p s u hs h
      rw [(hB _ _ b).2] at this
      exact this
    · exact ih _ Q E p s u hs h
  | newGen c k ih =>
    intro Q E p s u hs h
    have := ih _ Q E p _ _ (hs.push (c := c)) h
    rw [← hs.size] at this
    exact this
  | resume g r _ k ih =>
    intro Q E p s u hs h
    obtain ⟨res, s', hw, h⟩ := h
    obtain ⟨u', w', z⟩ := wakes_sim hB hw hs
    exact ⟨res, u', w', ih res Q E p s' u' z h⟩
  | yield _ _ _ _ => intro Q E p s u _ h; exact h
  | stack k ih => intro Q E p s u hs h; exact ih _ Q E p s u hs h
  | fork _ _ => intro Q E p s u _ h; exact h
  | thread k ih => intro Q E p s u hs h; exact ih _ Q E p s u hs h
  | await _ _ _ _ _ => intro Q E p s u _ h; exact h
/-! ### all suspended generators asleep -/
def sleepG : GenState → GenState
  | .suspended _ l c p fs cl => .suspended (fun _ => .unsupported "asleep") l c p fs cl
  | x => x
def isSusp : GenState → Bool
  | .suspended .. => true
  | _ => false
def asleep (s : Shared) : Shared := { s with gens := s.gens.map sleepG }
def bd (s : Shared) : Bd := fun i => match s.gens[i]? with
  | some x => if isSusp x = true then some (sleepG x, x) else none
  | none => none
theorem bd_ok (s : Shared) : ∀ i b, bd s i = some b → stuckG b.1 ∧ b.1.seen = b.2.seen := by
  intro i b h
  unfold bd at h
  split at h
  · rename_i x _
    split at h
    · cases h
      cases x with
      | suspended k l c p fs cl => exact ⟨fun r => ⟨_, rfl⟩, rfl⟩
      | _ => rename_i z; cases z
    · cases h
  · cases h
theorem sim_asleep (s : Shared) : Sim (bd s) (asleep s) s := by
  refine ⟨rfl, ?_, fun i x y ex ey => ?_, fun i b q => ?_⟩
  · show s.gens.size = (s.gens.map sleepG).size
    simp
  · have ex : (s.gens.map sleepG)[i]? = some x := ex
    rw [Array.getElem?_map, ey] at ex
    cases ex
    unfold bd
    rw [ey]
    cases y with
    | suspended k l c p fs cl => exact .inl rfl
    | fresh c => exact .inr ⟨rfl, rfl, trivial⟩
    | running => exact .inr ⟨rfl, rfl, trivial⟩
    | finished => exact .inr ⟨rfl, rfl, trivial⟩
  · show i < (s.gens.map sleepG).size
    unfold bd at q
    split at q
    · rename_i x e
      have := (Array.getElem?_eq_some_iff.mp e).1
      simpa using this
    · cases q
/-- u: the real state behind it, s': the one with s's suspended generators asleep -/
structure KeptG (s s' u : Shared) : Prop where
  eq : u = { s' with gens := u.gens }
  same : ∀ (i : Nat) (x : GenState), s.gens[i]? = some x → isSusp x = true → u.gens[i]? = some x
  bare : AllBare s.gens → AllBare s'.gens → AllBare u.gens
theorem kept_of {s s' u : Shared} (h : Sim (bd s) s' u) : KeptG s s' u := by
  refine ⟨h.eq, fun i x e hx => ?_, fun h1 h2 y hy => ?_⟩
  · have hb : bd s i = some (sleepG x, x) := by
      unfold bd
      rw [e]
      exact if_pos hx
    have hl : i < s'.gens.size := h.dom i _ hb
    have hl' : i < u.gens.size := by rw [h.size]; exact hl
    rcases h.rel i _ _ (Array.getElem?_eq_getElem hl) (Array.getElem?_eq_getElem hl') with q | ⟨q, _, _⟩
    · rw [hb] at q
      rw [Array.getElem?_eq_getElem hl']
      exact congrArg some (Prod.mk.inj (Option.some.inj q)).2.symm
    · rw [hb] at q
      cases q
  · obtain ⟨i, hi, e⟩ := Array.mem_iff_getElem.mp hy
    have hl : i < s'.gens.size := by rw [← h.size]; exact hi
    rcases h.rel i _ y (Array.getElem?_eq_getElem hl) (by rw [Array.getElem?_eq_getElem hi, e]) with q | ⟨_, q, _⟩
    · unfold bd at q
      split at q
      · rename_i x ex
        split at q
        · have ey : x = y := (Prod.mk.inj (Option.some.inj q)).2
          rw [← ey]
          exact h1 _ (Array.mem_of_getElem? ex)
        · cases q
      · cases q
    · rw [← q]
      exact h2 _ (Array.getElem_mem hl)
/-- what holds of a piece with all suspended generators asleep holds of it as they are, and they stay as they are -/
theorem wpAny_asleep {α : Type} {A : Around} {t : Sem α} {Q : α → Shared → Prop} {E : Value → Shared → Prop} {s : Shared} (h : wpAny M A t Q E (asleep s)) :
    wpAny M A t (fun a u => ∃ s', KeptG s s' u ∧ Q a s') (fun e u => ∃ s', KeptG s s' u ∧ E e s') s := fun Γ p hΓ => by
  have := wp_sim (bd_ok s) t _ _ p _ _ (sim_asleep s) (h Γ p hΓ)
  exact wpAny_mono (M := M) (A := A) (t := t) (s := s) (Q := fun a u => ∃ s', Sim (bd s) s' u ∧ Q a s') (E := fun e u => ∃ s', Sim (bd s) s' u ∧ E e s') (fun Γ p hΓ => wp_sim (bd_ok s) t _ _ p _ _ (sim_asleep s) (h Γ p hΓ)) (fun _ _ ⟨s', z, q⟩ => ⟨s', kept_of z, q⟩) (fun _ _ ⟨s', z, q⟩ => ⟨s', kept_of z, q⟩) Γ p hΓ
end Asl

end
section
set_option Elab.async false
set_option linter.all false
set_option maxRecDepth 100000
set_option maxHeartbeats 4000000
/-! A generator's body, woken by a consumer that may have changed its heap between: the body's context is made anew at each waking. -/
namespace L2
open PySem PySem.Spec PyProof.Rows GenW
/-- a waking: the state, what is tracked there, the generator's own iterators -/
structure Ix where
  s : Shared
  H : Hp
  ip : List (Addr × Obj)
/-- the heap below n -/
def cutH (h : Heap) (n : Nat) : Heap := ⟨h.objs.extract 0 n, h.life⟩
theorem cutH_get {h : Heap} {n : Nat} {b : Addr} : (cutH h n).get? b = if b < n then h.get? b else none := by
  unfold Heap.get? cutH
  dsimp only
  by_cases hb : b < n
  · rw [if_pos hb]
    have e : (h.objs.extract 0 n)[b]? = h.objs[b]? := by
      rw [Array.getElem?_extract]
      by_cases hs : b < h.objs.size
      · rw [if_pos (by
          have h1 : (b : Nat) < n := hb
          have h2 : (b : Nat) < h.objs.size := hs
          show b < min n h.objs.size - 0
          rw [Nat.sub_zero]
          exact Nat.lt_min.mpr ⟨h1, h2⟩), Nat.zero_add]
      · rw [if_neg (fun q => hs (Nat.lt_of_lt_of_le q (Nat.le_trans (Nat.sub_le _ _) (Nat.min_le_right _ _))))]
        exact (Array.getElem?_eq_none_iff.mpr (Nat.le_of_not_lt hs)).symm
    rw [e]
  · rw [if_neg hb]
    have e : (h.objs.extract 0 n)[b]? = none := by
      refine Array.getElem?_eq_none_iff.mpr ?_
      rw [Array.size_extract]
      exact Nat.le_trans (Nat.sub_le _ _) (Nat.le_trans (Nat.min_le_left _ _) (Nat.le_of_not_lt hb))
    rw [e]
theorem cutH_size {h : Heap} {n : Nat} (hn : n ≤ h.objs.size) : (cutH h n).objs.size = n := by
  show (h.objs.extract 0 n).size = n
  rw [Array.size_extract]
  show min n h.objs.size - 0 = n
  rw [Nat.min_eq_left hn]
  rfl
open Classical in
/-- what is tracked at a waking, as the generator sees it: the consumer's; whatever else stands above the frame but is not its own stays as it is -/
noncomputable def hbx (L : Addr) (b : Ix) : Hp := fun a => match b.H a with
  | some u => some u
  | none => if L < a ∧ a ∉ b.ip.map (·.1) then (b.s.heap.get? a).map fun o => .ext fun h => h.get? a = some o else none
theorem hbx_some {L : Addr} {b : Ix} {a : Addr} {u : HO} (h : b.H a = some u) : hbx L b a = some u := by unfold hbx; rw [h]
theorem hbx_none {L : Addr} {b : Ix} {a : Addr} (h : b.H a = none) (n : ¬ (L < a ∧ a ∉ b.ip.map (·.1))) : hbx L b a = none := by
  unfold hbx
  rw [h]
  dsimp only
  rw [if_neg n]
theorem hbx_ext {L : Addr} {b : Ix} {a : Addr} {o : Obj} (h : b.H a = none) (n : L < a ∧ a ∉ b.ip.map (·.1)) (e : b.s.heap.get? a = some o) : hbx L b a = some (.ext fun h => h.get? a = some o) := by
  unfold hbx
  rw [h]
  dsimp only
  rw [if_pos n, e]
  rfl
/-- nothing tracked at the waking has changed -/
def Kp (H H' : Hp) : Prop := ∀ a, H a ≠ none → H' a = H a
/-- the context at a waking -/
def Cx.at (X : Cx) (b : Ix) : Cx := { X with s_0 := { b.s with heap := cutH b.s.heap X.env.locals }, H_0 := fun a => if a < X.env.locals then b.H a else none }
/-- what is wanted behind a statement: how many are out, the last waking -/
structure GEnd2 where
  nx : Nat → Ix → St → Hp → Prop
  rt : Nat → Ix → V → Hp → Prop
  bk : Nat → Ix → St → Hp → Prop := fun _ _ _ _ => False
  ct : Nat → Ix → St → Hp → Prop := fun _ _ _ _ => False
abbrev TG2 := GEnd2 → Nat → Ix → St → Hp → Prop
section
variable (X : Cx) (C : Nat → Ix → Prop) (Pv : Addr → Prop) (Hd : Nat → V → Ix → Hp → Prop)
def GY2 : Protocol := fun n s₀ v s kap => ∃ (b : Ix) (i : Nat) (x : V) (ip : List (Addr × Obj)) (σ : St) (H : Hp), n + 1 + i = sizeLine ∧ C (n + 1) b ∧ b.s = s₀ ∧ (∀ p ∈ b.ip, Pv p.1) ∧ RelV x v ∧ Inv (X.at b) ip σ H s ∧ Kp (hbx X.env.locals b) H ∧ (∀ p ∈ ip, Pv p.1) ∧ Hd i x b H ∧
  ∀ b' : Ix, b'.ip = ip → Inv (X.at b') ip σ (hbx X.env.locals b') b'.s → C n b' → kap (.send .none) b'.s
def GSP2 (b : Ix) (ip : List (Addr × Obj)) (D : GEnd2) (i : Nat) (f : Flow) (s : Shared) : Prop :=
  match f with
  | .next => ∃ σ H, Inv (X.at b) ip σ H s ∧ D.nx i b σ H
  | .brk => ∃ σ H, Inv (X.at b) ip σ H s ∧ D.bk i b σ H
  | .cont => ∃ σ H, Inv (X.at b) ip σ H s ∧ D.ct i b σ H
  | .ret u => ∃ v σ H, Inv (X.at b) ip σ H s ∧ RelV v u ∧ D.rt i b v H
structure GC2 (ip : List (Addr × Obj)) (A : Around) (c : Code) (fs : List Frame) (gd : Bool → Bool) : Prop where
  ip : ∀ p ∈ ip, Pv p.1
  over : A.over c fs = X.A
  split : splitAtGen fs = none
  guard : fs.any Frame.guarded = false
  gd : gd false = false
/-- a waking that is well -/
structure Wk (n : Nat) (b : Ix) (s₀ : Shared) : Prop where
  c : C n b
  s : b.s = s₀
  pv : ∀ p ∈ b.ip, Pv p.1
structure GK2 (ip : List (Addr × Obj)) (A : Around) (R : GenEnd) (c : Code) (fs : List Frame) (K : Flow → Sem PySem.Fin) (J : Value → Sem PySem.Fin) (D : GEnd2) : Prop where
  ok : ∀ (n i : Nat) (b : Ix) (s₀ s : Shared) (f : Flow), n + i = sizeLine → Wk C Pv n b s₀ → GSP2 X b ip D i f s → Seg (model X.prog X.w) A R (GY2 X C Pv Hd) n s₀ c (K f) fs s
structure GS2 (st : Stmt) (t : TG2) : Prop where
  run : ∀ (A : Around) (ip : List (Addr × Obj)) (R : GenEnd) (n i : Nat) (b : Ix) (s₀ : Shared) (c : Code) (fs : List Frame) (K : Flow → Sem PySem.Fin) (J : Value → Sem PySem.Fin) (gd : Bool → Bool) (lv : List Value → List Value) (s : Shared) (σ : St) (H : Hp) (D : GEnd2),
    GC2 X Pv ip A c fs gd → n + i = sizeLine → Wk C Pv n b s₀ → GK2 X C Pv Hd ip A R c fs K J D → Inv (X.at b) ip σ H s → t D i b σ H →
    Seg (model X.prog X.w) A R (GY2 X C Pv Hd) n s₀ c ((exec st X.env).wrap K J gd lv) fs s
structure GSs2 (st : List Stmt) (t : TG2) : Prop where
  run : ∀ (A : Around) (ip : List (Addr × Obj)) (R : GenEnd) (n i : Nat) (b : Ix) (s₀ : Shared) (c : Code) (fs : List Frame) (K : Flow → Sem PySem.Fin) (J : Value → Sem PySem.Fin) (gd : Bool → Bool) (lv : List Value → List Value) (s : Shared) (σ : St) (H : Hp) (D : GEnd2),
    GC2 X Pv ip A c fs gd → n + i = sizeLine → Wk C Pv n b s₀ → GK2 X C Pv Hd ip A R c fs K J D → Inv (X.at b) ip σ H s → t D i b σ H →
    Seg (model X.prog X.w) A R (GY2 X C Pv Hd) n s₀ c ((execs st X.env).wrap K J gd lv) fs s
end
section
variable {X : Cx} {C : Nat → Ix → Prop} {Pv : Addr → Prop} {Hd : Nat → V → Ix → Hp → Prop} {st : Stmt} {rest : List Stmt}
def t20 : TG2 := fun D i b σ H => D.nx i b σ H
theorem gss2_nil : GSs2 X C Pv Hd [] t20 := by
  refine ⟨fun A ip R n i b s₀ c fs K J gd lv s σ H D g hn hw k hI ht => ?_⟩
  exact seg_execs_nil (k.ok n i b s₀ s .next hn hw ⟨σ, H, hI, ht⟩)
def t2Then (t u : TG2) : TG2 := fun D i b σ H => t { D with nx := fun i' b' σ' H' => u D i' b' σ' H' } i b σ H
theorem gss2_cons {t u : TG2} (a : GS2 X C Pv Hd st t) (d : GSs2 X C Pv Hd rest u) : GSs2 X C Pv Hd (st :: rest) (t2Then t u) := by
  refine ⟨fun A ip R n i b s₀ c fs K J gd lv s σ H D g hn hw k hI ht => ?_⟩
  refine seg_execs_cons ?_
  refine a.run A ip R n i b s₀ c fs _ J gd lv s σ H { D with nx := fun i' b' σ' H' => u D i' b' σ' H' } g hn hw ⟨fun n' i' b' s₀' s' f hn' hw' hs => ?_⟩ hI ht
  cases f with
  | next =>
    obtain ⟨σ', H', I', q⟩ := hs
    exact d.run A ip R n' i' b' s₀' c fs K J gd lv s' σ' H' D g hn' hw' k I' q
  | brk => exact k.ok n' i' b' s₀' s' .brk hn' hw' hs
  | cont => exact k.ok n' i' b' s₀' s' .cont hn' hw' hs
  | ret u => exact k.ok n' i' b' s₀' s' (.ret u) hn' hw' hs
/-! ### yield -/
def t2Yield (X : Cx) (Hd : Nat → V → Ix → Hp → Prop) (te : TE) : TG2 := fun D i b σ H => i < sizeLine ∧ te σ H fun x H1 => Kp (hbx X.env.locals b) H1 ∧ Hd i x b H1 ∧ ∀ b' : Ix, D.nx (i + 1) b' σ (hbx X.env.locals b')
theorem gs2_yield {e : Expr} {te : TE} {yp pos : Pos} (he : ∀ b, PE (X.at b) e te) (hxe : ∀ u s, ¬ X.xe u s) (hco : X.env.scope.isCoroutine = false := by rfl) (hi : interactive X.env = false := by rfl) : GS2 X C Pv Hd (.Expr (.Yield (some e) yp) pos) (t2Yield X Hd te) := by
  refine ⟨fun A ip R n i b s₀ c fs K J gd lv s σ H D g hn hw k hI ht => ?_⟩
  obtain ⟨hlt, ht⟩ := ht
  obtain ⟨n, rfl⟩ : ∃ m, n = m + 1 := ⟨n - 1, by omega⟩
  refine seg_Expr_Yield g.split g.gd g.guard ?_ hco hi
  rw [g.over]
  refine wpAny_mono ((he b).run _ s σ H _ hI ht) (fun v s' hv => ?_) fun x s' hx => (hxe x s' hx).elim
  obtain ⟨x, H1, I1, rv, q1, q2, q3⟩ := hv
  intro kap hk
  refine ⟨b, i, x, ip, σ, H1, hn, hw.c, hw.s, hw.pv, rv, I1, q1, g.ip, q2, fun b' e1 I' c' => hk .none b'.s ?_⟩
  refine k.ok n (i + 1) b' b'.s b'.s .next (by omega) ⟨c', rfl, fun p hp => g.ip p (by rw [← e1]; exact hp)⟩ ⟨σ, _, I', q3 b'⟩
/-! ### for -/
def t2For (X : Cx) (wi : TI) (g : TG) (tb : TG2) : TG2 := fun D i b σ H => wi σ H fun J H1 => Kp (hbx X.env.locals b) H1 ∧ ∃ W : Nat → Nat → Nat → Ix → St → Hp → Prop, (∃ m, W 0 m i b σ H1) ∧ ∀ j m i b σ H, W j m i b σ H →
  (J.stop j H ∧ D.nx i b σ H) ∨ (J.go j H ∧ ∃ N : Nat → Ix → St → Hp → Prop, (∀ i' b' σ' H', N i' b' σ' H' → ∃ m', m' < m ∧ W (j + 1) m' i' b' σ' H') ∧ ∀ x H', J.yld j H x H' → g x σ H' fun σ2 H2 => tb { D with nx := N, ct := N, bk := D.nx } i b σ2 H2)
theorem gc2_loop {ip : List (Addr × Obj)} {A : Around} {c c' : Code} {fs : List Frame} {gd : Bool → Bool} {k : Result → Sem PySem.Fin} {l kp : List Value} {p : Pos} (g : GC2 X Pv ip A c fs gd) (hw : c'.weight = 0) (hu : c'.cUnits = 0) :
    GC2 X Pv ip A c' (.ret k none (gd false) l c p kp :: fs) id where
  ip := g.ip
  over := (over_loop hw hu).trans g.over
  split := by
    show (splitAtGen fs).map _ = none
    rw [g.split]; rfl
  guard := by
    show (gd false || fs.any Frame.guarded) = false
    rw [g.gd, g.guard]; rfl
  gd := rfl
theorem gs2_for {tg iter : Expr} {body : List Stmt} {wi : TI} {g : TG} {tb : TG2} {pos : Pos} (hxe : ∀ u s, ¬ X.xe u s) (hc : X.calm = true) (hex : X.ex = []) (hcel : ∀ x, X.env.cells.lookup x = none) (hpn : X.pn = [])
    (hLs : ∀ n b s₀, Wk C Pv n b s₀ → X.env.locals < b.s.heap.objs.size) (hPv : ∀ n b s₀ a, Wk C Pv n b s₀ → X.env.locals < a → b.H a = none → b.s.heap.get? a = none → Pv a)
    (hi : ∀ b, PI (X.at b) tg iter wi) (hg : ∀ b, PG (X.at b) tg g) (hb : GSs2 X C Pv Hd body tb)
    (hs : ∀ x, foldedSetIterable iter X.env x = pure x := by intro _; rfl) : GS2 X C Pv Hd (.For tg iter body [] pos) (t2For X wi g tb) := by
  refine ⟨fun A ip R n i b s₀ c fs K J gd lv s σ H D gc hn hw k hI ht => ?_⟩
  refine seg_For ?_ hs
  rw [gc.over]
  refine wpAny_mono ((hi b).run _ s σ H _ hI ht) (fun v s1 h1 => wpAny_mono h1 (fun itv s2 h2 p => ?_) fun x s' hx => (hxe x s' hx).elim) fun x s' hx => (hxe x s' hx).elim
  obtain ⟨it, fp, tn, J', H2, e, I2, T, st2, f2, kp2, W, ⟨m0, w0⟩, turn⟩ := h2
  subst e
  have hL : X.env.locals < b.s.heap.objs.size := hLs n b s₀ hw
  -- the iterator's things are new
  have fpv : ∀ a ∈ fp, Pv a ∧ X.env.locals < a := fun a ha => by
    obtain ⟨q0, q1, q2, q3, q4, q5⟩ := f2 a ha
    have h1 : X.env.locals ≤ a := by
      rcases q3 with z | z
      · rw [show (X.at b).ex = [] from hex] at z; cases z
      · have : (cutH b.s.heap X.env.locals).objs.size ≤ a := z
        rwa [cutH_size (Nat.le_of_lt hL)] at this
    have h2 : X.env.locals < a := Nat.lt_of_le_of_ne h1 (Ne.symm q1)
    refine ⟨?_, h2⟩
    have h3 : hbx X.env.locals b a = none := by
      cases z : hbx X.env.locals b a with
      | none => rfl
      | some u =>
        have := kp2 a (by rw [z]; nofun)
        rw [q0, z] at this
        cases this
    have h4 : b.H a = none := by
      cases z : b.H a with
      | none => rfl
      | some u => rw [hbx_some z] at h3; cases h3
    by_cases hip : a ∈ b.ip.map (·.1)
    · obtain ⟨p, hp, rfl⟩ := List.mem_map.mp hip
      exact hw.pv p hp
    · cases z : b.s.heap.get? a with
      | none => exact hPv n b s₀ a hw h2 h4 z
      | some o => rw [hbx_ext h4 ⟨h2, hip⟩ z] at h3; cases h3
  have stat : ∀ {b' : Ix} {H' : Hp}, (X.at b').Ok → (∀ a ∈ fp, H' a = none) → ∀ a ∈ fp, FpOk (X.at b') ip H' a := fun {b' H'} ok hn a ha => by
    obtain ⟨q0, q1, q2, q3, q4, q5⟩ := f2 a ha
    exact ⟨hn a ha, q1, q2, .inr (Nat.le_trans ok.above (Nat.le_of_lt (fpv a ha).2)), q4, q5⟩
  have gl := fun (kk : Result → Sem PySem.Fin) => gc2_loop (k := kk) (c' := .forLoop tg (.ref it) body [] X.env) (l := lv []) (kp := []) (p := p) gc rfl rfl
  have loop : ∀ (m j n i : Nat) (b : Ix) (s₀ s : Shared) (σ : St) (H : Hp), n + i = sizeLine → Wk C Pv n b s₀ → W j m i b σ H → Inv (X.at b) ip σ H s → tn j s.heap → (∀ a ∈ fp, H a = none) →
      Seg (model X.prog X.w) A R (GY2 X C Pv Hd) n s₀ (.forLoop tg (.ref it) body [] X.env) ((model X.prog X.w).den (.forLoop tg (.ref it) body [] X.env))
        (.ret (fun r => ((match r with | .ok f => (.pure f : Sem Flow) | .error e => .raise e).onRaise (cameBack X.env)).wrap K J gd lv) none (gd false) (lv []) c p [] :: fs) s := by
    intro m
    induction m using Nat.strongRecOn with
    | ind m ih =>
      intro j n i b s₀ s3 σ3 H3 hn hw w3 I3 st3 fr3
      refine seg_forLoop ?_
      rw [(gl _).over]
      rcases turn j m i b σ3 H3 w3 with ⟨stop, qn⟩ | ⟨go, N, hN, step⟩
      · refine wpAny_mono (T.done (X.at b) rfl rfl rfl hc j _ s3 σ3 H3 (fun _ _ => False) I3 (stat I3.ok fr3) st3 stop) (fun r s4 ⟨hr, I4⟩ => ?_) fun x s' hx => hx.elim
        subst hr
        exact seg_leaf (.ok .next) (k.ok n i b s₀ s4 .next hn hw ⟨σ3, H3, I4, qn⟩)
      · refine wpAny_mono (T.item (X.at b) rfl rfl rfl hc j _ s3 σ3 H3 (fun _ _ => False) I3 (stat I3.ok fr3) st3 go) (fun r s4 ⟨u, hr, h4⟩ => ?_) fun x s' hx => hx.elim
        subst hr
        refine wpAny_mono h4 (fun _ s5 ⟨x, H5, I5, r5, y5, st5, fr5⟩ => ?_) fun x s' hx => hx.elim
        have I5' := I5.pinned (stat I5.ok fr5) (T.obj _ _ st5)
        refine wpAny_mono ((hg b).run _ s5 σ3 H5 x u _ I5' r5 (step x H5 y5)) (fun _ s6 ⟨σ6, H6, I6, q6⟩ => ?_) fun x s' hx => (hxe x s' hx).elim
        have gl' : ∀ kk : Result → Sem PySem.Fin, GC2 X Pv (ip ++ pinsAt fp s5.heap) A (.forLoop tg (.ref it) body [] X.env) (.ret kk none (gd false) (lv []) c p [] :: fs) id := fun kk =>
          { gl kk with
            ip := fun p hp => by
              rcases List.mem_append.mp hp with z | z
              · exact gc.ip p z
              · exact (fpv p.1 (of_pinsAt z).1).1 }
        have again : ∀ {n' i' : Nat} {b' : Ix} {s₀' s7 : Shared} {σ7 : St} {H7 : Hp}, n' + i' = sizeLine → Wk C Pv n' b' s₀' → Inv (X.at b') (ip ++ pinsAt fp s5.heap) σ7 H7 s7 → N i' b' σ7 H7 →
            Seg (model X.prog X.w) A R (GY2 X C Pv Hd) n' s₀' (.forLoop tg (.ref it) body [] X.env) (.pure (.again (.forLoop tg (.ref it) body [] X.env)))
              (.ret (fun r => ((match r with | .ok f => (.pure f : Sem Flow) | .error e => .raise e).onRaise (cameBack X.env)).wrap K J gd lv) none (gd false) (lv []) c p [] :: fs) s7 := fun {n' i' b' s₀' s7 σ7 H7} hn' hw' I7 n7 => by
          obtain ⟨m', hm, w7⟩ := hN i' b' σ7 H7 n7
          have pin7 : ∀ a ∈ fp, ∀ o, s5.heap.get? a = some o → s7.heap.get? a = some o ∧ H7 a = none := fun a ha o e => by
            have q := I7.pin (a, o) (List.mem_append_right _ (List.mem_append_right _ (mem_pinsAt ha e)))
            exact ⟨q.1, q.2.1⟩
          refine seg_again rfl (ih m' hm (j + 1) n' i' b' s₀' s7 σ7 H7 hn' hw' w7 (Inv.unpinned (pins := ip) I7) (T.keep _ _ _ st5 fun a ha o e => (pin7 a ha o e).1) fun a ha => ?_)
          obtain ⟨o, e, d⟩ := T.obj _ _ st5 a ha
          exact (pin7 a ha o e).2
        refine hb.run A _ R n i b s₀ _ _ _ _ id id s6 σ6 H6 { D with nx := N, ct := N, bk := D.nx } (gl' _) hn hw ⟨fun n' i' b' s₀' s7 f hn' hw' hs => ?_⟩ I6 q6
        cases f with
        | next => obtain ⟨σ7, H7, I7, n7⟩ := hs; exact again hn' hw' I7 n7
        | cont => obtain ⟨σ7, H7, I7, n7⟩ := hs; exact again hn' hw' I7 n7
        | brk => obtain ⟨σ7, H7, I7, q7⟩ := hs; exact seg_leaf (.ok .next) (k.ok n' i' b' s₀' s7 .next hn' hw' ⟨σ7, H7, Inv.unpinned (pins := ip) I7, q7⟩)
        | ret v => obtain ⟨x7, σ7, H7, I7, r7, q7⟩ := hs; exact seg_leaf (.ok (.ret v)) (k.ok n' i' b' s₀' s7 (.ret v) hn' hw' ⟨x7, σ7, H7, Inv.unpinned (pins := ip) I7, r7, q7⟩)
  exact loop m0 0 n i b s₀ s2 σ H2 hn hw w0 I2 st2 fun a ha => (f2 a ha).1
end
end L2

end
section
set_option Elab.async false
set_option linter.all false
set_option maxRecDepth 100000
set_option maxHeartbeats 4000000
/-! A generator and its consumer: waking, handing out. -/
namespace L2
open PySem PySem.Spec PyProof.Rows GenW
/-- the context of a generator's body, below a consumer's -/
def genCx (Xc : Cx) (N : List Str) (env : Env) (A : Around) : Cx where
  prog := Xc.prog
  w := Xc.w
  K := Xc.K
  mg := Xc.mg
  base := Xc.base
  A := A.deeper env
  N := N
  s_0 := Xc.s_0
  H_0 := Xc.H_0
  env := env
  outer := Xc.stack
  stack := env :: Xc.stack
  ex := []
  calm := true
  fn := fun _ => true
  pn := []
  xe := fun _ _ => False
/-- what stays of a generator and its consumer -/
structure GSt (Xc : Cx) (pins : List (Addr × Obj)) (env : Env) (A : Around) : Prop where
  kind : env.scope.kind = .function
  glob : env.globals = mainGlobals
  blt : env.builtins = builtinsNs
  frame : env.frame = some env.locals
  hd : A.handled = none
  frames : A.frames = some Xc.stack
  cel : ∀ x, env.cells.lookup x = none
  loc : ∀ x, env.kindOf x ≠ some .cell ∧ env.kindOf x ≠ some .free
  low : ∀ f ∈ frs Xc.stack, f < env.locals
  base : Xc.base.objs.size ≤ env.locals
  ne : Xc.env.locals ≠ env.locals
  own : env.locals ∈ Xc.ex ∨ Xc.s_0.heap.objs.size ≤ env.locals
  pinL : ∀ q ∈ Xc.pn ++ pins, q.1 ≠ env.locals
  hole : ∀ a, env.locals < a → a < Xc.s_0.heap.objs.size → Xc.s_0.heap.get? a = none → a ∈ Xc.ex
/-- the generator's own, as the consumer sees it -/
def Pvt (Xc : Cx) (pins : List (Addr × Obj)) (L : Addr) (a : Addr) : Prop := L < a ∧ (a ∈ Xc.ex ∨ Xc.s_0.heap.objs.size ≤ a) ∧ ∀ q ∈ Xc.pn ++ pins, q.1 ≠ a
/-- the generator's names, in its frame's object -/
def LocOk (N : List Str) (env : Env) (σ : St) (oL : Obj) : Prop := ∀ h : Heap, h.get? env.locals = some oL → ∃ m, h.Ns env.locals m ∧ ∀ (i : Nat) (x : Str) (v : V), N[i]? = some x → σ[i]? = some (some v) → Vis env.scope x → ∃ u, RelV v u ∧ Look env h m x u
theorem objOk_there {P : Program} {w : World} {H : Hp} {h : Heap} {a : Addr} {u : HO} (x : ObjOk P w H h a u) : ∃ o, h.get? a = some o := by
  cases u with
  | lst xs => obtain ⟨_, _, _, _, e⟩ := x; exact ⟨_, e⟩
  | tup xs => obtain ⟨_, _, _, o, e, _⟩ := x; exact ⟨o, e⟩
  | dK kvs => obtain ⟨_, _, _, _, o, _, _, e, _⟩ := x; exact ⟨o, e⟩
  | dT kvs => obtain ⟨_, _, _, _, o, _, _, e, _⟩ := x; exact ⟨o, e⟩
  | set S n => obtain ⟨o, _, _, _, e, _⟩ := x; exact ⟨o, e⟩
  | ins C dx fs => obtain ⟨_, _, _, e, _⟩ := x; exact ⟨_, e⟩
  | own y => exact x
  | xd fs => obtain ⟨_, ⟨o, _, _, e, _⟩, _⟩ := x; exact ⟨o, e⟩
  | rng lo hi => obtain ⟨_, _, _, e⟩ := x; exact ⟨_, e⟩
  | frz ob u => obtain ⟨e, _⟩ := x; exact ⟨_, e⟩
  | tbl ps => exact ⟨_, x⟩
  | met f y => exact ⟨_, x⟩
  | ext φ => obtain ⟨_, ⟨o, e⟩, _⟩ := x; exact ⟨o, e⟩
theorem funs_cut {h base : Heap} {n : Nat} : ∀ {l : List Env}, h.FunFrames base l → (∀ f ∈ frs l, f < n) → (cutH h n).FunFrames base l
  | [], _, _ => trivial
  | e :: l, ⟨h1, ⟨L, o, h2, h3, h4, h5⟩, h6⟩, hl => by
    refine ⟨h1, ⟨L, o, h2, h3, ?_, h5⟩, funs_cut h6 fun f hf => hl f ?_⟩
    · have : L < n := hl L (by unfold frs; rw [List.filterMap_cons, h2]; exact List.mem_cons_self)
      rw [cutH_get, if_pos this]
      exact h4
    · unfold frs at hf ⊢
      rw [List.filterMap_cons, h2]
      exact List.mem_cons_of_mem _ hf
theorem hok_hbx {P : Program} {w : World} {L : Addr} {b : Ix} (x : HOk P w b.H b.s.heap) : HOk P w (hbx L b) b.s.heap := fun a o e => by
  cases q : b.H a with
  | some u =>
    rw [hbx_some q] at e
    cases e
    exact (x a _ q).stay (fun _ _ _ z => z) (fun c z => hbx_some z) fun c xs z => hbx_some z
  | none =>
    unfold hbx at e
    rw [q] at e
    dsimp only at e
    split at e
    · cases z : b.s.heap.get? a with
      | none => rw [z] at e; cases e
      | some ob =>
        rw [z] at e
        cases e
        exact ⟨z, ⟨ob, z⟩, fun h1 h2 e1 k => k ob e1⟩
    · cases e
section
variable {Xc : Cx} {pins : List (Addr × Obj)} {N : List Str} {env : Env} {A : Around} {σc σ : St}
theorem frs_sub {Xc : Cx} (ok : Xc.Ok) : ∀ f ∈ Xc.fs, f ∈ frs Xc.stack := fun f hf => by
  rcases ok.stk with e | ⟨e, h⟩
  · rw [e]; exact hf
  · rw [e]
    have hf : f ∈ Xc.outer.filterMap (·.frame) := hf
    unfold frs
    rw [List.filterMap_cons, h]
    exact List.mem_cons_of_mem _ hf
/-- woken: the body's invariant -/
theorem wake_inv (G : GSt Xc pins env A) {b : Ix} {oL : Obj} (I : Inv Xc (pins ++ (env.locals, oL) :: b.ip) σc b.H b.s) (hN : σ.length = N.length) (hloc : LocOk N env σ oL) (hip : ∀ p ∈ b.ip, Pvt Xc pins env.locals p.1) :
    Inv ((genCx Xc N env A).at b) b.ip σ (hbx env.locals b) b.s := by
  obtain ⟨eL, nL, neL, nfL, ncL⟩ := I.pin (env.locals, oL) (List.mem_append_right _ (List.mem_append_right _ List.mem_cons_self))
  have ltL : env.locals < b.s.heap.objs.size := Heap.lt_size eL
  have pin : ∀ p ∈ b.ip, b.s.heap.get? p.1 = some p.2 ∧ b.H p.1 = none ∧ p.1 ≠ Xc.env.locals ∧ p.1 ∉ Xc.fs ∧ ∀ v, p.2.data ≠ .cell v := fun p hp => I.pin p (List.mem_append_right _ (List.mem_append_right _ (List.mem_cons_of_mem _ hp)))
  have hcel : ∀ x c, ((genCx Xc N env A).at b).env.cells.lookup x = some c → False := fun x c h => by
    have z := G.cel x
    have h : env.cells.lookup x = some c := h
    rw [z] at h
    cases h
  have cg : ∀ {a : Addr} {o : Obj}, (cutH b.s.heap env.locals).get? a = some o → a < env.locals ∧ b.s.heap.get? a = some o := fun {a o} e => by
    rw [cutH_get] at e
    split at e
    · exact ⟨‹_›, e⟩
    · cases e
  refine ⟨⟨I.ok.mod, G.kind, G.glob, G.blt, ?_, fun x y c h => ?_, fun x h => ?_, fun x c _ h => ?_, fun _ => G.hd, Around.frames_deeper G.frames, .inr ⟨rfl, G.frame⟩, fun a h => ?_, fun a o e => ?_, ?_, fun a o _ h => ?_, fun a h => ?_, ?_, fun f hf => ?_⟩, rfl, I.bare, ⟨?_, ?_, ?_, ?_, ?_, ?_, ?_⟩, hloc _ eL, fun x c h => ?_, ?_, fun x c h => ?_, fun p hp => ?_, hok_hbx I.hok, hN⟩
  · show (cutH b.s.heap env.locals).objs.size ≤ env.locals
    rw [cutH_size (Nat.le_of_lt ltL)]
    exact Nat.le_refl _
  · exact (hcel x c h).elim
  · rcases h with h | h
    · exact absurd h (G.loc x).1
    · exact absurd h (G.loc x).2
  · exact (hcel x c h).elim
  · cases h
  · obtain ⟨h1, h2⟩ := I.bs a o e
    have : a < env.locals := Nat.lt_of_lt_of_le (Heap.lt_size e) G.base
    refine ⟨?_, ?_⟩
    · show (cutH b.s.heap env.locals).get? a = some o
      rw [cutH_get, if_pos this]
      exact h1
    · show (if a < env.locals then b.H a else none) = none
      rw [if_pos this]
      exact h2
  · show Xc.base.objs.size ≤ (cutH b.s.heap env.locals).objs.size
    rw [cutH_size (Nat.le_of_lt ltL)]
    exact G.base
  · cases h
  · cases h
  · exact funs_cut I.stack G.low
  · show (if f < env.locals then b.H f else none) = none
    rw [if_pos (G.low f hf)]
    exact I.stkFree f hf
  · intro a o e _ _ _
    exact (cg e).2
  · intro a o e _ _ _
    exact ⟨o.slots, (cg e).2⟩
  · intro a o e n _
    have n : (if a < env.locals then b.H a else none) = none := n
    rw [if_pos (cg e).1] at n
    exact hbx_none n fun z => absurd (Nat.lt_trans z.1 (cg e).1) (Nat.lt_irrefl _)
  · intro a o e _
    exact ⟨o, (cg e).2⟩
  · intro a xs e
    have e : (if a < env.locals then b.H a else none) = some (.tup xs) := e
    split at e
    · exact hbx_some e
    · cases e
  · intro a o u e
    have e : (if a < env.locals then b.H a else none) = some (.frz o u) := e
    split at e
    · exact hbx_some e
    · cases e
  · intro a ps e
    have e : (if a < env.locals then b.H a else none) = some (.tbl ps) := e
    split at e
    · exact ⟨#[], by rw [hbx_some e]; simp⟩
    · cases e
  · exact (hcel x c h).elim
  · exact hbx_none nL fun z => absurd z.1 (Nat.lt_irrefl _)
  · exact (hcel x c h).elim
  · have hp : p ∈ b.ip := hp
    obtain ⟨h1, h2, h3, h4, h5⟩ := pin p hp
    refine ⟨h1, hbx_none h2 fun z => z.2 (List.mem_map.mpr ⟨p, hp, rfl⟩), fun z => ?_, fun z => ?_, h5⟩
    · have := (hip p hp).1
      rw [show p.1 = env.locals from z] at this
      exact absurd this (Nat.lt_irrefl _)
    · rcases List.mem_cons.mp (I.stkSub p.1 z) with z | z
      · exact h3 z
      · exact h4 z
open Classical in
/-- what the consumer tracks behind the generator's run -/
noncomputable def backH (L : Addr) (b : Ix) (H1 : Hp) : Hp := fun a => if b.H a = none ∧ hbx L b a ≠ none then none else H1 a
theorem backH_new {L : Addr} {b : Ix} {H1 : Hp} {a : Addr} (h : hbx L b a = none) : backH L b H1 a = H1 a := by
  unfold backH
  rw [if_neg (fun z => z.2 h)]
theorem backH_kp {L : Addr} {b : Ix} {H1 : Hp} (k : Kp (hbx L b) H1) : Kp b.H (backH L b H1) := fun a h => by
  unfold backH
  rw [if_neg (fun z => h z.1)]
  cases q : b.H a with
  | none => exact absurd q h
  | some u => rw [← hbx_some (L := L) q]; exact k a (by rw [hbx_some q]; nofun)
theorem backH_none {L : Addr} {b : Ix} {H1 : Hp} {a : Addr} (h : H1 a = none) : backH L b H1 a = none := by
  unfold backH
  split
  · rfl
  · exact h
/-- behind the generator's run: the consumer's invariant -/
theorem back_inv (G : GSt Xc pins env A) {b : Ix} {oL : Obj} {ip' : List (Addr × Obj)} {σ' : St} {H1 : Hp} {s1 : Shared} (I : Inv Xc (pins ++ (env.locals, oL) :: b.ip) σc b.H b.s) (hip : ∀ p ∈ b.ip, Pvt Xc pins env.locals p.1)
    (J : Inv ((genCx Xc N env A).at b) ip' σ' H1 s1) (k : Kp (hbx env.locals b) H1) (hip' : ∀ p ∈ ip', Pvt Xc pins env.locals p.1) :
    ∃ oL', Inv Xc (pins ++ (env.locals, oL') :: ip') σc (backH env.locals b H1) s1 ∧ LocOk N env σ' oL' := by
  obtain ⟨eL, nL, neL, nfL, ncL⟩ := I.pin (env.locals, oL) (List.mem_append_right _ (List.mem_append_right _ List.mem_cons_self))
  have ltL : env.locals < b.s.heap.objs.size := Heap.lt_size eL
  have pin : ∀ p ∈ b.ip, b.s.heap.get? p.1 = some p.2 ∧ b.H p.1 = none ∧ p.1 ≠ Xc.env.locals ∧ p.1 ∉ Xc.fs ∧ ∀ v, p.2.data ≠ .cell v := fun p hp => I.pin p (List.mem_append_right _ (List.mem_append_right _ (List.mem_cons_of_mem _ hp)))
  have I0 : Inv Xc pins σc b.H b.s := Inv.unpinned (pl := (env.locals, oL) :: b.ip) I
  have cut : ∀ {a : Addr} {o : Obj}, a < env.locals → b.s.heap.get? a = some o → ((genCx Xc N env A).at b).s_0.heap.get? a = some o := fun {a o} h e => by
    show (cutH b.s.heap env.locals).get? a = some o
    rw [cutH_get, if_pos h]
    exact e
  have h0 : ∀ {a : Addr} {u : Option HO}, a < env.locals → b.H a = u → ((genCx Xc N env A).at b).H_0 a = u := fun {a u} h e => by
    show (if a < env.locals then b.H a else none) = u
    rw [if_pos h]
    exact e
  have chm : ∀ {a : Addr}, a ∉ env.locals :: b.ip.map (·.1) → a ≠ env.locals ∧ a ∉ b.ip.map (·.1) := fun {a} h => ⟨fun z => h (by rw [z]; exact List.mem_cons_self), fun z => h (List.mem_cons_of_mem _ z)⟩
  -- what stands above the frame
  have up : ∀ {a : Addr} {o : Obj}, env.locals < a → a ∉ b.ip.map (·.1) → b.H a = none → b.s.heap.get? a = some o → hbx env.locals b a ≠ none ∧ s1.heap.get? a = some o := fun {a o} h1 h2 h3 h4 => by
    have e := hbx_ext (L := env.locals) h3 ⟨h1, h2⟩ h4
    refine ⟨by rw [e]; nofun, ?_⟩
    have e1 := k a (by rw [e]; nofun)
    rw [e] at e1
    exact (J.hok a _ e1).1
  have tri : ∀ a : Addr, a ≠ env.locals → a < env.locals ∨ env.locals < a := fun a h => by
    rcases Nat.lt_trichotomy a env.locals with z | z | z
    · exact .inl z
    · exact absurd z h
    · exact .inr z
  have un : Un (frs Xc.stack) (env.locals :: b.ip.map (·.1)) b.H (backH env.locals b H1) b.s.heap s1.heap := by
    refine ⟨fun a o e n hf hc => ?_, fun a o e n hf hc => ?_, fun a o e n hc => ?_, fun a o e hc => ?_, fun a xs e => ?_, fun a o u e => ?_, fun a ps e => ?_⟩
    · obtain ⟨c1, c2⟩ := chm hc
      rcases tri a c1 with z | z
      · exact J.base.keep a o (cut z e) (h0 z n) hf (fun q => by cases q)
      · exact (up z c2 n e).2
    · have z := G.low a hf
      exact J.base.slot a o (cut z e) (h0 z n) hf (fun q => by cases q)
    · obtain ⟨c1, c2⟩ := chm hc
      rcases tri a c1 with z | z
      · exact backH_none (J.base.free a o (cut z e) (h0 z n) (fun q => by cases q))
      · unfold backH
        rw [if_pos ⟨n, (up z c2 n e).1⟩]
    · obtain ⟨c1, c2⟩ := chm hc
      rcases tri a c1 with z | z
      · exact J.base.there a o (cut z e) (fun q => by cases q)
      · cases q : b.H a with
        | none => exact ⟨o, (up z c2 q e).2⟩
        | some u =>
          have e1 := k a (by rw [hbx_some q]; nofun)
          rw [hbx_some q] at e1
          have := J.hok a u e1
          exact objOk_there this
    · exact (backH_kp k a (by rw [e]; nofun)).trans e
    · exact (backH_kp k a (by rw [e]; nofun)).trans e
    · exact ⟨#[], by rw [(backH_kp k a (by rw [e]; nofun)).trans e]; simp⟩
  have hok : HOk Xc.prog Xc.w (backH env.locals b H1) s1.heap := fun a u e => by
    have e1 : H1 a = some u := by
      unfold backH at e
      split at e
      · cases e
      · exact e
    refine (J.hok a u e1).stay (fun _ _ _ z => z) (fun c z => ?_) fun c xs z => ?_
    · unfold backH
      rw [if_neg]
      · exact z
      · rintro ⟨q1, q2⟩
        have q3 := k c q2
        cases q : hbx env.locals b c with
        | none => exact q2 q
        | some y =>
          rw [q, z] at q3
          cases q3
          unfold hbx at q
          rw [q1] at q
          dsimp only at q
          split at q
          · cases w : b.s.heap.get? c with
            | none => rw [w] at q; cases q
            | some _ => rw [w] at q; cases q
          · cases q
    · unfold backH
      rw [if_neg]
      · exact z
      · rintro ⟨q1, q2⟩
        have q3 := k c q2
        cases q : hbx env.locals b c with
        | none => exact q2 q
        | some y =>
          rw [q, z] at q3
          cases q3
          unfold hbx at q
          rw [q1] at q
          dsimp only at q
          split at q
          · cases w : b.s.heap.get? c with
            | none => rw [w] at q; cases q
            | some _ => rw [w] at q; cases q
          · cases q
  have K0 : Inv Xc pins σc (backH env.locals b H1) s1 := I0.call' (ch := env.locals :: b.ip.map (·.1)) J.os un hok J.bare fun a ha => by
    have one : ∀ {a : Addr} {o : Obj}, b.s.heap.get? a = some o → (∀ v, o.data ≠ .cell v) → ∀ x c, Xc.env.cells.lookup x = some c → c ≠ a := fun {a o} e nc x c h z => by
      obtain ⟨v, ob, ho, hd⟩ := I0.cell x c h
      rw [z, e] at ho
      cases ho
      exact nc v hd
    rcases List.mem_cons.mp ha with z | z
    · rw [z]
      exact ⟨G.own, neL, one eL ncL, G.pinL⟩
    · obtain ⟨p, hp, rfl⟩ := List.mem_map.mp z
      obtain ⟨h1, h2, h3, h4, h5⟩ := pin p hp
      obtain ⟨_, q1, q2⟩ := hip p hp
      exact ⟨q1, h3, one h1 h5, q2⟩
  obtain ⟨m, ⟨o, es, ep, ho, hd, hk, hfd⟩, vals⟩ := J.loc
  have ho : s1.heap.get? env.locals = some o := ho
  refine ⟨o, Inv.pins_of K0 fun p hp => ?_, fun h e => ⟨m, ⟨o, es, ep, e, hd, hk, hfd⟩, fun i x v e1 e2 e3 => ?_⟩⟩
  · rcases List.mem_append.mp hp with hp | hp
    · exact K0.pin p (List.mem_append_right _ hp)
    rcases List.mem_cons.mp hp with hp | hp
    · rw [hp]
      exact ⟨ho, backH_none J.free, neL, nfL, fun v z => by rw [hd] at z; cases z⟩
    · obtain ⟨h1, h2, h3, h4, h5⟩ := J.pin p hp
      have h4 : p.1 ∉ frs Xc.stack := h4
      refine ⟨h1, backH_none h2, fun z => ?_, fun z => h4 (frs_sub I0.ok _ z), h5⟩
      -- the consumer's own frame is another
      obtain ⟨mc, ⟨oc, _, _, hoc, _⟩, _⟩ := I0.loc
      rcases tri Xc.env.locals G.ne with q | q
      · have := (hip' p hp).1
        rw [z] at this
        exact absurd (Nat.lt_trans q this) (Nat.lt_irrefl _)
      · have nip : Xc.env.locals ∉ b.ip.map (·.1) := fun y => by
          obtain ⟨p', hp', e'⟩ := List.mem_map.mp y
          exact (pin p' hp').2.2.1 e'
        have e1 := hbx_ext (L := env.locals) I0.free ⟨q, nip⟩ hoc
        have e2 := k Xc.env.locals (by rw [e1]; nofun)
        rw [e1, ← z, h2] at e2
        cases e2
  · obtain ⟨u, r, l⟩ := vals i x v e1 e2 e3
    refine ⟨u, r, ?_⟩
    rcases l with l | ⟨l, _⟩
    · exact .inl l
    · rcases l with l | l
      · exact absurd l (G.loc x).1
      · exact absurd l (G.loc x).2
end
end L2

end
section
set_option Elab.async false
set_option linter.all false
set_option maxRecDepth 100000
set_option maxHeartbeats 4000000
/-! One turn of a generator: next, with its new state known to be a suspended one. -/
namespace Asl
open PySem PySem.Spec GenW PyProof.Rows
open Sem (wp)
/-- what follows a yield, with n - 1 left -/
def kapG (M : Model) (A : Around) (R : GenEnd) (Y : Protocol) (g1 : GenState) : Nat → Resume → Shared → Prop
  | 0, _, _ => False
  | m + 1, r, s => g1.Goes M A R Y m r s
theorem resume_susp {M : Model} {A : Around} {R : GenEnd} {Y : Protocol} {n : Nat} {E : Value → Shared → Prop} {s : Shared} {g : Nat} {gs : GenState} {r : Resume} {l : List Value} {α : Type} {k : GenResult → Sem α} {Q : α → Shared → Prop}
    (at0 : s.gens[g]? = some gs) (go : gs.Goes M A R Y n r (s.setGen g .running)) (ends : ∀ x s1, R n (s.setGen g .running) x s1 → wpAny M A (k (End.ret x).result) Q E (s1.setGen g .finished))
    (gives : ∀ v s1 g1, isSusp g1 = true → g1.bare = true → Y (n - 1) (s.setGen g .running) v s1 (kapG M A R Y g1 n) → wpAny M A (k (.yielded v)) Q E (s1.setGen g g1)) : wpAny M A (.resume g r l k) Q E s := fun Γ p inA => by
  have key : ∀ (e : End) (s1 : Shared), SegEnd R Y n (Seg.next M A R Y n) (s.setGen g .running) e s1 → e.quiet = true ∧ wp M Γ (k e.result) (fun a _ s' => Q a s') (fun x _ s' => E x s') p (s1.setGen g e.genState) := by
    intro e s1 he
    cases e with
    | ret x => exact ⟨rfl, ends x s1 he Γ p inA⟩
    | susp v a1 a2 a3 a4 a5 a6 =>
      obtain ⟨q, y⟩ := he
      refine ⟨q, gives v s1 _ rfl (End.bare_of_quiet q) ?_ Γ p inA⟩
      match n, y with
      | 0, y => exact y
      | _ + 1, y => exact y
  rw [Sem.wp_resume]
  cases gs with
  | running => exact go.elim
  | finished => exact go.elim
  | fresh c =>
    obtain ⟨e0, go⟩ := go
    subst e0
    obtain ⟨e, s1, run, he⟩ := seg_iff.mp go (Γ.wake c p) p rfl (inA.wake c p)
    obtain ⟨q, z⟩ := key e s1 he
    refine ⟨e.result, s1.setGen g e.genState, ?_, z⟩
    unfold Wakes
    rw [at0]
    exact ⟨e, s1, run, q, rfl, rfl⟩
  | suspended k0 l0 c p0 fs cl =>
    obtain ⟨e, s1, run, he⟩ := seg_iff.mp go (Γ.wake c p) p0 rfl (inA.wake c p)
    obtain ⟨q, z⟩ := key e s1 he
    refine ⟨e.result, s1.setGen g e.genState, ?_, z⟩
    unfold Wakes
    rw [at0]
    exact ⟨e, s1, run, q, rfl, rfl⟩
end Asl
namespace L2
open PySem PySem.Spec PyProof.Rows GenW
/-- how such a run ends -/
def EndR (F : Nat → Shared → Shared → Prop) : GenEnd := fun n s₀ r s1 => (r = .ok (.ret .none) ∨ r = .ok .next) ∧ F n s₀ s1
theorem next_susp {P : Program} {w : World} {A : Around} {E : Value → Shared → Prop} {s : Shared} {a : Addr} {g n : Nat} {gs : GenState} {F : Nat → Shared → Shared → Prop} {Y : Protocol} {Q : Option Value → Shared → Prop}
    (calm : A.handled = none) (lim : s.heap.NoLimit) (room : A.depth < recursionLimit) (isg : s.heap.IsGen a g) (at0 : s.gens[g]? = some gs) (go : gs.Goes (model P w) A.in1 (EndR F) Y n (.send .none) (s.setGen g .running))
    (gives : ∀ v s1 g1, Asl.isSusp g1 = true → g1.bare = true → Y (n - 1) (s.setGen g .running) v s1 (Asl.kapG (model P w) A.in1 (EndR F) Y g1 n) → Q (some v) (s1.setGen g g1))
    (ends : ∀ s1, F n (s.setGen g .running) s1 → ∀ h', (∀ b o, s1.heap.get? b = some o → h'.get? b = some o) → Q none { s1.setGen g .finished with heap := h' }) : wpAny (model P w) A (pyNext (.ref a)) Q E s := by
  have stop : ∀ {α : Type} (f : α → Sem PySem.Fin) (s1 : Shared), F n (s.setGen g .running) s1 → wpAny (model P w) A.in1 (newExc (.type "StopIteration") [] >>= fun e => (raiseNew e : Sem α) >>= f) (fun fin s' => ∃ v, fin = PySem.Fin.done (.ret v) ∧ wpAny (model P w) A (pure (some v)) Q E s')
      (fun e s' => wpAny (model P w) A (do if ← isInstance e (.type "StopIteration") then pure none else throw e) Q E s') (s1.setGen g .finished) := fun {α} f s1 hF => by
    apply wpAny_bind
    simp only [newExc, newTuple]
    apply wpAny_bind
    refine wpAny_newObj_type ?_ (by size_fits)
    apply wpAny_bind
    refine wpAny_of_eq (a := Value.none) (by
      first
        | rfl
        | (simp only [firstArgMember]
           rfl)) ?_
    refine wpAny_newObj_type ?_ (by size_fits)
    simp only [raiseNew]
    apply wpAny_bind
    apply wpAny_bind
    apply wpAny_handled
    have calm1 : A.in1.handled = none := calm
    first
      | rw [calm1]
      | simp only [calm1]
    apply wpAny_throw
    apply wpAny_bind
    refine wpAny_isInstance (b := true) (T := "StopIteration")
      ⟨_, Heap.get?_push_size _ rfl, rfl⟩ isSubtype_stop ?_
    · exact wpAny_pure (ends s1 hF _ fun b o e => Heap.get?_push_of_some _ (Heap.get?_push_of_some _ e))
  unfold pyNext
  apply wpAny_bind
  apply wpAny_attempt
  refine wpAny_callSpecial?_slot (name := Str.ofString "__next__") isg.typeIs slot_gen_next ?_
  refine wpAny_call_entry slot_gen_next isg.typeIs entry_gen_next ?_ (args_gen_next _)
  show wpAny _ A.in1 (Builtin.Generator.genWake (Value.ref a) (.send .none)) _ _ s
  unfold Builtin.Generator.genWake
  apply wpAny_bind
  apply wpAny_holding
  apply wpAny_genNumber isg
  apply wpAny_bind
  apply wpAny_genState at0
  have run : ∀ {k : GenResult → Sem PySem.Fin} {Q2 : PySem.Fin → Shared → Prop} {E2 : Value → Shared → Prop}, (∀ s1, F n (s.setGen g .running) s1 → wpAny (model P w) A.in1 (k (.returned .none)) Q2 E2 (s1.setGen g .finished)) →
      (∀ v s1 g1, Asl.isSusp g1 = true → g1.bare = true → Y (n - 1) (s.setGen g .running) v s1 (Asl.kapG (model P w) A.in1 (EndR F) Y g1 n) → wpAny (model P w) A.in1 (k (.yielded v)) Q2 E2 (s1.setGen g g1)) →
      wpAny (model P w) A.in1 (.resume g (.send .none) [] k) Q2 E2 s := fun {k Q2 E2} h1 h2 => by
    refine Asl.resume_susp at0 go (fun x s1 hx => ?_) h2
    obtain ⟨hr, hF⟩ := hx
    have : End.result (.ret x) = .returned .none := by rcases hr with e | e <;> rw [e] <;> rfl
    rw [this]
    exact h1 s1 hF
  cases gs with
  | running => exact go.elim
  | finished => exact go.elim
  | fresh c =>
    apply wpAny_bind
    apply wpAny_roomToWake lim (show A.in1.depth < recursionLimit from room)
    show wpAny _ A.in1 (.resume g (.send .none) [] _) _ _ s
    exact run (fun s1 hF => stop _ s1 hF) fun v s1 g1 h1 h2 h3 => wpAny_pure ⟨v, rfl, wpAny_pure (gives v s1 g1 h1 h2 h3)⟩
  | suspended k0 l0 c p0 fs cl =>
    apply wpAny_bind
    apply wpAny_roomToWake lim (show A.in1.depth < recursionLimit from room)
    show wpAny _ A.in1 (.resume g (.send .none) [] _) _ _ s
    exact run (fun s1 hF => stop _ s1 hF) fun v s1 g1 h1 h2 h3 => wpAny_pure ⟨v, rfl, wpAny_pure (gives v s1 g1 h1 h2 h3)⟩
end L2

end
section
set_option Elab.async false
set_option linter.all false
set_option maxRecDepth 100000
set_option maxHeartbeats 4000000
/-! A consumer's turn at a generator. -/
namespace L2
open PySem PySem.Spec PyProof.Rows GenW
theorem Inv.gens {X : Cx} {pins : List (Addr × Obj)} {σ : St} {H : Hp} {s : Shared} {G : Array GenState} (I : Inv X pins σ H s) (hG : AllBare G) : Inv X pins σ H { s with gens := G } :=
  ⟨I.ok, I.os, hG, I.base, I.loc, I.cell, I.free, I.freeC, I.pin, I.hok, I.len⟩
section
variable (Xc : Cx) (pins : List (Addr × Obj)) (N : List Str) (env : Env) (Ac : Around) (U : Nat → St → Hp → Prop) (Hd : Nat → V → Ix → Hp → Prop) (Dn : Nat → Prop)
/-- what the consumer says when it wakes it -/
def Cc (n : Nat) (b : Ix) : Prop := ∃ σc oL, Inv Xc (pins ++ (env.locals, oL) :: b.ip) σc b.H b.s ∧ U n σc b.H
abbrev Xg : Cx := genCx Xc N env Ac.in1
def FinF : Nat → Shared → Shared → Prop := fun n s₀ s1 => ∃ (b : Ix) (i : Nat) (σ : St) (H1 : Hp), n + i = sizeLine ∧ Wk (Cc Xc pins env U) (Pvt Xc pins env.locals) n b s₀ ∧ Inv ((Xg Xc N env Ac).at b) [] σ H1 s1 ∧ Kp (hbx env.locals b) H1 ∧ Dn i
abbrev YY : Protocol := GY2 (Xg Xc N env Ac) (Cc Xc pins env U) (Pvt Xc pins env.locals) Hd
/-- it goes on from here -/
def GoesAt (n : Nat) (ip : List (Addr × Obj)) (σ : St) (gs : GenState) : Prop := ∀ b : Ix, b.ip = ip → Inv ((Xg Xc N env Ac).at b) ip σ (hbx env.locals b) b.s → Cc Xc pins env U n b →
  gs.Goes (model Xc.prog Xc.w) Ac.in1 (EndR (FinF Xc pins N env Ac U Dn)) (YY Xc pins N env Ac U Hd) n (.send .none) b.s
end
section
variable {Xc : Cx} {pins : List (Addr × Obj)} {N : List Str} {env : Env} {Ac : Around} {U : Nat → St → Hp → Prop} {Hd : Nat → V → Ix → Hp → Prop} {Dn : Nat → Prop}
theorem cc_low {n : Nat} {b : Ix} {s₀ : Shared} (h : Wk (Cc Xc pins env U) (Pvt Xc pins env.locals) n b s₀) : env.locals < b.s.heap.objs.size := by
  obtain ⟨σc, oL, I, _⟩ := h.c
  exact Heap.lt_size (I.pin (env.locals, oL) (List.mem_append_right _ (List.mem_append_right _ List.mem_cons_self))).1
theorem cc_priv {A : Around} (G : GSt Xc pins env A) {n : Nat} {b : Ix} {s₀ : Shared} {a : Addr} (h : Wk (Cc Xc pins env U) (Pvt Xc pins env.locals) n b s₀) (hl : env.locals < a) (hH : b.H a = none) (hn : b.s.heap.get? a = none) : Pvt Xc pins env.locals a := by
  obtain ⟨σc, oL, I, _⟩ := h.c
  have I0 : Inv Xc pins σc b.H b.s := Inv.unpinned (pl := (env.locals, oL) :: b.ip) I
  refine ⟨hl, ?_, fun q hq z => ?_⟩
  · by_cases hs : Xc.s_0.heap.objs.size ≤ a
    · exact .inr hs
    · have hs := Nat.lt_of_not_le hs
      cases e : Xc.s_0.heap.get? a with
      | none => exact .inl (G.hole a hl hs e)
      | some o =>
        by_cases hx : a ∈ Xc.ex
        · exact .inl hx
        · obtain ⟨o', e'⟩ := I0.base.there a o e hx
          rw [hn] at e'
          cases e'
  · have := (I0.pin q hq).1
    rw [z, hn] at this
    cases this
/-- a generator that has not begun -/
theorem fresh_goes {body : List Stmt} {t : TG2} {σ0 : St} (hb : GSs2 (Xg Xc N env Ac) (Cc Xc pins env U) (Pvt Xc pins env.locals) Hd body t)
    (ht : ∀ b : Ix, t { nx := fun i b _ H => Kp (hbx env.locals b) H ∧ Dn i, rt := fun i b v H => v = .non ∧ Kp (hbx env.locals b) H ∧ Dn i } 0 b σ0 (hbx env.locals b)) :
    GoesAt Xc pins N env Ac U Hd Dn sizeLine [] σ0 (.fresh (.func body env)) := by
  intro b eip I c
  refine ⟨rfl, seg_func ?_⟩
  refine hb.run Ac.in1 [] (EndR (FinF Xc pins N env Ac U Dn)) sizeLine 0 b b.s (.func body env) [] _ _ id id b.s σ0 (hbx env.locals b) _ ⟨fun p hp => (by cases hp), over_func, rfl, rfl, rfl⟩ (Nat.add_zero _)
    ⟨c, rfl, fun p hp => by rw [eip] at hp; cases hp⟩ ⟨fun n i b' s₀ s f hn hw hs => ?_⟩ I (ht b)
  cases f with
  | next =>
    obtain ⟨σ', H', J, k, d⟩ := hs
    exact seg_end (.ok (.ret .none)) ⟨.inl rfl, b', i, σ', H', hn, hw, J, k, d⟩
  | brk => obtain ⟨_, _, _, q⟩ := hs; exact q.elim
  | cont => obtain ⟨_, _, _, q⟩ := hs; exact q.elim
  | ret u =>
    obtain ⟨v, σ', H', J, rv, ev, k, d⟩ := hs
    subst ev
    have eu : u = Value.none := rv
    subst eu
    exact seg_end (.ok (.ret .none)) ⟨.inl rfl, b', i, σ', H', hn, hw, J, k, d⟩
/-- one turn -/
theorem gen_turn (G : GSt Xc pins env Ac.in1) (calm : Ac.handled = none) (room : Ac.depth < recursionLimit) {n : Nat} (hn : 1 ≤ n) {a : Addr} {g : Nat} {s : Shared} {H : Hp} {σc σ : St} {ip : List (Addr × Obj)} {oL : Obj} {gs : GenState} {E : Value → Shared → Prop}
    (I : Inv Xc (pins ++ (env.locals, oL) :: ip) σc H s) (hloc : LocOk N env σ oL) (hN : σ.length = N.length) (hip : ∀ p ∈ ip, Pvt Xc pins env.locals p.1) (hg : s.heap.IsGen a g) (hgs : s.gens[g]? = some gs) (hU : U n σc H) (hgo : GoesAt Xc pins N env Ac U Hd Dn n ip σ gs) :
    wpAny (model Xc.prog Xc.w) Ac (pyNext (.ref a)) (fun r s2 => match r with
      | some v => ∃ (m i : Nat) (b : Ix) (σc' : St) (x : V) (ip' : List (Addr × Obj)) (σ' : St) (oL' : Obj) (g1 : GenState) (H1 : Hp), n = m + 1 ∧ n + i = sizeLine ∧ U n σc' b.H ∧ RelV x v ∧ Inv Xc (pins ++ (env.locals, oL') :: ip') σc' (backH env.locals b H1) s2 ∧ LocOk N env σ' oL' ∧
          σ'.length = N.length ∧ (∀ p ∈ ip', Pvt Xc pins env.locals p.1) ∧ s2.gens[g]? = some g1 ∧ Asl.isSusp g1 = true ∧ GoesAt Xc pins N env Ac U Hd Dn m ip' σ' g1 ∧ Kp b.H (backH env.locals b H1) ∧ Hd i x b H1
      | none => ∃ (i : Nat) (b : Ix) (σc' : St) (H1 : Hp), n + i = sizeLine ∧ U n σc' b.H ∧ Inv Xc pins σc' (backH env.locals b H1) s2 ∧ Kp b.H (backH env.locals b H1) ∧ Dn i) E s := by
  have hgl : g < s.gens.size := (Array.getElem?_eq_some_iff.mp hgs).1
  have I' : Inv Xc (pins ++ (env.locals, oL) :: ip) σc H (s.setGen g .running) := I.gens (G := (s.setGen g .running).gens) (allBare_setGen I.bare rfl)
  have J := wake_inv (A := Ac.in1) G (b := ⟨s.setGen g .running, H, ip⟩) I' hN hloc hip
  obtain ⟨m, rfl⟩ : ∃ m, n = m + 1 := ⟨n - 1, by omega⟩
  refine wpAny_gsz (n := g + 1) hgl (next_susp calm I.nolimit room hg hgs (hgo ⟨s.setGen g .running, H, ip⟩ rfl J ⟨σc, oL, I', hU⟩) (fun v s1 g1 susp bare y hsz => ?_) fun s1 hF h' hk hsz => ?_)
  · obtain ⟨b, i, x, ip', σ', H1, e1, ⟨σc', oLb, Ib, hUb⟩, eb, hpv, rv, J1, kp, hip', hd', kap⟩ := y
    obtain ⟨oL', I2, hl2⟩ := back_inv (A := Ac.in1) G Ib hpv J1 kp hip'
    have I3 : Inv Xc (pins ++ (env.locals, oL') :: ip') σc' (backH env.locals b H1) (s1.setGen g g1) := I2.gens (G := (s1.setGen g g1).gens) (allBare_setGen I2.bare bare)
    have hsz1 : g < s1.gens.size := by
      have q : (s1.setGen g g1).gens.size = s1.gens.size := setGen_size _ _ _
      have hsz' : g + 1 ≤ (s1.setGen g g1).gens.size := hsz
      omega
    exact ⟨m, i, b, σc', x, ip', σ', oL', g1, H1, rfl, e1, hUb, rv, I3, hl2, J1.len, hip', setGen_at hsz1, susp, fun b' e' J' c' => kap b' e' J' c', backH_kp kp, hd'⟩
  · obtain ⟨b, i, σ', H1, e1, hw, J1, kp, d⟩ := hF
    obtain ⟨σc', oLb, Ib, hUb⟩ := hw.c
    obtain ⟨oL', I2, hl2⟩ := back_inv (A := Ac.in1) G Ib hw.pv J1 kp (fun p hp => by cases hp)
    have I3 : Inv Xc pins σc' (backH env.locals b H1) s1 := Inv.unpinned (pl := [(env.locals, oL')]) I2
    have I4 : Inv Xc pins σc' (backH env.locals b H1) { s1 with heap := h', toks := s1.toks } := I3.kept hk
    exact ⟨i, b, σc', H1, e1, hUb, I4.gens (G := (s1.setGen g .finished).gens) (allBare_setGen I3.bare rfl), backH_kp kp, d⟩
end
end L2

end
section
set_option Elab.async false
set_option linter.all false
set_option maxRecDepth 100000
set_option maxHeartbeats 4000000
/-! Three loops over a constant of the top, a tuple handed out in the innermost; the consumer may do what it likes between. -/
namespace L2
open PySem PySem.Spec PyProof.Rows GenW
open Fu (iAny)
/-- the i-th that is handed out: a new tuple of these -/
def HdR (L : Addr) (rows : List (List V)) : Nat → V → Ix → Hp → Prop := fun i x b H1 => ∃ a vs, x = .ref a ∧ rows[i]? = some vs ∧ H1 a = some (.tup vs) ∧ hbx L b a = none
theorem for_const2 {X : Cx} {K : PySem.W.Frag} {te : TE} {a : Addr} {xs : List V} {g : TG} {tb : TG2} {D : GEnd2} {i : Nat} {b : Ix} {σ : St} {H : Hp} (hte : ∀ σ H Q, Q (.ref a) H → te σ H Q) (hx : ∀ H, SqT K H a xs) (Pv : Nat → Nat → Ix → St → Hp → Prop) (hk : Kp (hbx X.env.locals b) H) (h0 : Pv 0 i b σ H)
    (hs : ∀ j x i b σ H, xs[j]? = some x → Pv j i b σ H → g x σ H fun σ2 H2 => tb { D with nx := Pv (j + 1), ct := Pv (j + 1), bk := D.nx } i b σ2 H2) (hd : ∀ i b σ H, Pv xs.length i b σ H → D.nx i b σ H) : t2For X (iAny K te) g tb D i b σ H := by
  refine hte σ H _ (.inl ⟨a, rfl, .inr ⟨⟨xs, hx H⟩, ?_⟩⟩)
  refine ⟨hk, fun j m i b σ H => m = xs.length - j ∧ j ≤ xs.length ∧ Pv j i b σ H, ⟨xs.length, by simp, Nat.zero_le _, h0⟩, ?_⟩
  rintro j m i b σ H ⟨rfl, hj, p⟩
  have q := hx H
  by_cases hlt : j < xs.length
  · refine .inr ⟨⟨xs, xs[j], q, by simp [hlt]⟩, Pv (j + 1), fun i' b' σ' H' p' => ⟨xs.length - (j + 1), by omega, rfl, hlt, p'⟩, fun x H' y => ?_⟩
    obtain ⟨e, y⟩ := y
    subst e
    exact hs j x i b σ _ (y xs q) p
  · have e : j = xs.length := by omega
    subst e
    exact .inl ⟨⟨xs, q, Nat.le_refl _⟩, hd i b σ H p⟩
def rowsV (xs : List V) : List (List V) := xs.flatMap fun a => xs.flatMap fun b => xs.map fun c => [a, b, c]
def preV (xs : List V) (i j k : Nat) (x y : V) : List (List V) := ((xs.take i).flatMap fun a => xs.flatMap fun b => xs.map fun c => [a, b, c]) ++ ((xs.take j).flatMap fun b => xs.map fun c => [x, b, c]) ++ (xs.take k).map fun c => [x, y, c]
theorem split_at {α : Type} {l : List α} {i : Nat} {x : α} (h : l[i]? = some x) : l = l.take i ++ x :: l.drop (i + 1) := by
  obtain ⟨hl, e⟩ := List.getElem?_eq_some_iff.mp h
  rw [← e, ← List.drop_eq_getElem_cons hl, List.take_append_drop]
theorem pre_at {xs : List V} {i j k : Nat} {x y z : V} (hi : xs[i]? = some x) (hj : xs[j]? = some y) (hk : xs[k]? = some z) : (rowsV xs)[(preV xs i j k x y).length]? = some [x, y, z] := by
  have e : rowsV xs = preV xs i j k x y ++ ([x, y, z] :: (((xs.drop (k + 1)).map fun c => [x, y, c]) ++ ((xs.drop (j + 1)).flatMap fun b => xs.map fun c => [x, b, c]) ++ (xs.drop (i + 1)).flatMap fun a => xs.flatMap fun b => xs.map fun c => [a, b, c])) := by
    have h3 : (xs.map fun c => [x, y, c]) = ((xs.take k).map fun c => [x, y, c]) ++ [x, y, z] :: (xs.drop (k + 1)).map fun c => [x, y, c] := by
      have := congrArg (List.map fun c => [x, y, c]) (split_at hk)
      rw [List.map_append, List.map_cons] at this
      exact this
    have h2 : (xs.flatMap fun b => xs.map fun c => [x, b, c]) = ((xs.take j).flatMap fun b => xs.map fun c => [x, b, c]) ++ ((xs.map fun c => [x, y, c]) ++ (xs.drop (j + 1)).flatMap fun b => xs.map fun c => [x, b, c]) := by
      have := congrArg (List.flatMap fun b => xs.map fun c => [x, b, c]) (split_at hj)
      rw [List.flatMap_append, List.flatMap_cons] at this
      exact this
    have h1 : rowsV xs = ((xs.take i).flatMap fun a => xs.flatMap fun b => xs.map fun c => [a, b, c]) ++ ((xs.flatMap fun b => xs.map fun c => [x, b, c]) ++ (xs.drop (i + 1)).flatMap fun a => xs.flatMap fun b => xs.map fun c => [a, b, c]) := by
      have := congrArg (List.flatMap fun a => xs.flatMap fun b => xs.map fun c => [a, b, c]) (split_at hi)
      rw [List.flatMap_append, List.flatMap_cons] at this
      exact this
    rw [h1, h2, h3]
    unfold preV
    simp only [List.append_assoc, List.cons_append]
  rw [e]
  simp
theorem pre_k {xs : List V} {i j k : Nat} {x y z : V} (hk : xs[k]? = some z) : (preV xs i j (k + 1) x y).length = (preV xs i j k x y).length + 1 := by
  unfold preV
  have hl := (List.getElem?_eq_some_iff.mp hk).1
  simp only [List.length_append, List.length_map, List.length_take]
  omega
theorem pre_j {xs : List V} {i j : Nat} {x y y' : V} (hj : xs[j]? = some y) : (preV xs i j xs.length x y).length = (preV xs i (j + 1) 0 x y').length := by
  unfold preV
  rw [List.take_length, List.take_zero, List.map_nil, List.append_nil, List.take_add_one, hj]
  simp
theorem pre_i {xs : List V} {i : Nat} {x x' y y' : V} (hi : xs[i]? = some x) : (preV xs i xs.length 0 x y).length = (preV xs (i + 1) 0 0 x' y').length := by
  unfold preV
  rw [List.take_length, List.take_add_one, hi]
  simp
theorem kp_new {H0 H : Hp} {p : Addr} {o : HO} (k : Kp H0 H) (hp : H p = none) : Kp H0 (upd H p o) ∧ H0 p = none := by
  have h0 : H0 p = none := by
    cases q : H0 p with
    | none => rfl
    | some u =>
      have := k p (by rw [q]; nofun)
      rw [hp, q] at this
      cases this
  refine ⟨fun a ha => ?_, h0⟩
  rw [upd_ne (fun z => ha (by rw [z]; exact h0))]
  exact k a ha
theorem gen32 {X : Cx} {K : PySem.W.Frag} {te : TE} {a : Addr} {xs : List V} {D : GEnd2} {b : Ix} (hte : ∀ σ H Q, Q (.ref a) H → te σ H Q) (hx : ∀ H, SqT K H a xs) (hs : (rowsV xs).length < sizeLine)
    (hD : ∀ b σ H, Kp (hbx X.env.locals b) H → D.nx (rowsV xs).length b σ H) :
    t2For X (iAny K te) (gName 0) (t2Then (t2For X (iAny K te) (gName 1) (t2Then (t2For X (iAny K te) (gName 2) (t2Then (t2Yield X (HdR X.env.locals (rowsV xs)) (tTup (tCons (tVar 0) (tCons (tVar 1) (tCons (tVar 2) tNil))))) t20)) t20)) t20) D 0 b [none, none, none] (hbx X.env.locals b) := by
  have any : V := .non
  refine for_const2 hte hx (fun j i b σ H => σ.length = 3 ∧ Kp (hbx X.env.locals b) H ∧ i = (preV xs j 0 0 .non .non).length) (fun _ _ => rfl) ⟨rfl, fun _ _ => rfl, by simp [preV]⟩ (fun j x i b σ H ex ⟨l3, kp, e0⟩ => ?_) fun i b σ H ⟨_, kp, e0⟩ => ?_
  · refine for_const2 hte hx (fun k i b σ H => σ.length = 3 ∧ σ[0]? = some (some x) ∧ Kp (hbx X.env.locals b) H ∧ i = (preV xs j k 0 x .non).length) kp ⟨by simpa using l3, by rw [List.getElem?_set]; simp [l3], kp, by rw [e0]; simp [preV]⟩ (fun k y i b σ H ey ⟨l3, s0, kp, e1⟩ => ?_) fun i b σ H ⟨l3, _, kp, e1⟩ => ⟨l3, kp, by rw [e1]; exact pre_i ex⟩
    refine for_const2 hte hx (fun l i b σ H => σ.length = 3 ∧ σ[0]? = some (some x) ∧ σ[1]? = some (some y) ∧ Kp (hbx X.env.locals b) H ∧ i = (preV xs j k l x y).length) kp
      ⟨by simpa using l3, by rw [List.getElem?_set_ne (by decide)]; exact s0, by rw [List.getElem?_set]; simp [l3], kp, by rw [e1]; simp [preV]⟩ (fun l z i b σ H ez ⟨l3, s0, s1, kp, e2⟩ => ?_) fun i b σ H ⟨l3, s0, _, kp, e2⟩ => ⟨l3, s0, kp, by rw [e2]; exact pre_j ey⟩
    have hrow := pre_at ex ey ez
    rw [← e2] at hrow
    refine ⟨Nat.lt_trans (List.getElem?_eq_some_iff.mp hrow).1 hs, x, by rw [List.getElem?_set_ne (by decide)]; exact s0, y, by rw [List.getElem?_set_ne (by decide)]; exact s1, z, by rw [List.getElem?_set]; simp [l3], (show 3 ≤ sizeLine from by decide), fun p hp => ?_⟩
    obtain ⟨k1, k2⟩ := kp_new (o := .tup [x, y, z]) kp hp
    refine ⟨k1, ⟨p, [x, y, z], rfl, hrow, upd_same, k2⟩, fun b' => ⟨by simpa using l3, by rw [List.getElem?_set_ne (by decide)]; exact s0, by rw [List.getElem?_set_ne (by decide)]; exact s1, fun _ _ => rfl, by rw [e2]; exact (pre_k ez).symm⟩⟩
  · have : i = (rowsV xs).length := by rw [e0]; simp [preV, rowsV]
    subst this
    exact hD b σ H kp
end L2

end
section
set_option Elab.async false
set_option linter.all false
set_option maxRecDepth 100000
set_option maxHeartbeats 4000000
/-! A list comprehension over a generator def's call. -/
namespace L2
open PySem PySem.Spec PyProof.Rows GenW
section
variable {X : Cx} {pins : List (Addr × Obj)} {σ : St} {H : Hp} {s : Shared} {x qual : Str} {params : Arguments} {body : List Stmt} {scope : Scope} {f : Addr} {fd : FuncData} {N : List Str}
/-- what such a call leaves -/
structure GLaid (X : Cx) (pins : List (Addr × Obj)) (σ : St) (H : Hp) (s : Shared) (N : List Str) (qual : Str) (scope : Scope) (body : List Stmt) (f : Addr) (a : Addr) (g : Nat) (cdv : Value) (go oL : Obj) (s' : Shared) : Prop where
  inv : Inv X pins σ H s'
  keep : ∀ b o, s.heap.get? b = some o → s'.heap.get? b = some o
  above : s.heap.objs.size < a
  obj : s'.heap.get? a = some go
  isg : ∀ h : Heap, h.get? a = some go → h.IsGen a g
  cls : go.cls = .type "generator"
  loc : s'.heap.get? s.heap.objs.size = some oL
  nocell : ∀ v, oL.data ≠ .cell v
  names : LocOk N (envOfC qual scope s.heap.objs.size f cdv) (start N []) oL
  fresh : s'.gens[g]? = some (.fresh (.func body (envOfC qual scope s.heap.objs.size f cdv)))
theorem gen_call {Q : Value → Shared → Prop} {E : Value → Shared → Prop} (F : FunD X.K x qual params body scope [] [] f fd) (S : GScope N [] scope) (hb : Binds X.K fd [] []) (room : X.A.depth < recursionLimit) (I : Inv X pins σ H s)
    (h : ∀ a g cdv go oL s', GLaid X pins σ H s N qual scope body f a g cdv go oL s' → Q (.ref a) s') : wpAny (model X.prog X.w) X.A (call (.ref f) []) Q E s := by
  obtain ⟨oc, od, dV, kV, doc, pm, an, cdv, ct, osl, rfl, lk, hcd, _, _⟩ := F.ex
  suffices c0 : codeAny (model X.prog X.w) X.A (.call (.ref f) ⟨[], []⟩) (fun r s' => match r with
      | .ok (.ret u) => Q u s'
      | _ => False) s by
    refine wpAny_call (codeAny_mono c0 fun r s' hq => ?_)
    cases r with
    | error e => exact False.elim hq
    | ok fl =>
      cases fl with
      | ret u => exact hq
      | next => exact False.elim hq
      | brk => exact False.elim hq
      | cont => exact False.elim hq
  refine codeAny_call_generator room (I.kIn _ _ lk) rfl S.co S.gen rfl (PySem.W.codeRec_of I.kIn hcd) (hb s [] I.kIn rfl _ _ _ _ ?_)
  refine wpAny_newFunctionEnv_cells S.kind (fun y hy => by cases hy) fun env he s1 xc => ?_
  subst he
  have lim1 : s1.heap.NoLimit := I.nolimit.keeps xc.toInCall.keep
  refine ⟨lim1, ?_⟩
  obtain ⟨h1, tk, es1, hk1⟩ := xc.done
  have os1 : s1.os = s.os := by rw [es1]
  have gen1 : s1.gens = s.gens := by rw [es1]
  have lt1 : s.heap.objs.size < s1.heap.objs.size := xc.toInCall.ns.lt
  have kp1 : ∀ b o, s.heap.get? b = some o → s1.heap.get? b = some o := xc.toInCall.keep
  obtain ⟨oL, es, ep, ho, hd, hk, hfd⟩ := xc.toInCall.ns
  have ho : s1.heap.get? s.heap.objs.size = some oL := ho
  have main : ∀ (go : Obj) (nm qn : Value) (tk2 : Nat), go.cls = .type "generator" → go.data = .fields #[.int s1.gens.size 0, nm, qn] → go.slots = #[] → (∀ h : Heap, (h.push go).get? h.objs.size = some go) →
      Q (.ref s1.heap.objs.size) { s1 with gens := s1.gens.push (.fresh (.func body (envOfC qual scope s.heap.objs.size f cdv))), toks := tk2, heap := s1.heap.push go } := by
    intro go nm qn tk2 c1 c2 c3 hgp
    refine h s1.heap.objs.size s1.gens.size cdv go oL _ ?_
    have kp2 : ∀ b o, s.heap.get? b = some o → (s1.heap.push go).get? b = some o := fun b o e => Heap.get?_push_of_some _ (kp1 b o e)
    refine ⟨?_, kp2, lt1, hgp _, fun h e => ⟨go, nm, qn, e, c1, c2, c3⟩, c1, Heap.get?_push_of_some _ ho, fun v z => (by rw [hd] at z; cases z), fun h e => ⟨_, ⟨oL, es, ep, e, hd, hk, hfd⟩, fun i y v e1 e2 _ => ?_⟩, Array.getElem?_push_size ..⟩
    · exact I.call' (ch := []) os1 (Un.kept kp2) (I.hok.kept kp2) (AllBare.push (by rw [gen1]; exact I.bare) rfl) fun b z => by simp at z
    · exfalso
      have : ∀ (l : List Str) (i : Nat) (v : V), (start l [])[i]? ≠ some (some v) := by
        intro l i v z
        unfold start at z
        simp [List.getElem?_append, List.getElem?_replicate] at z
      exact this N i v e2
  exact main _ _ _ _ rfl rfl rfl fun h => Heap.get?_push_size _ rfl
theorem allBare_asleep {s : Shared} (h : AllBare s.gens) : AllBare (Asl.asleep s).gens := fun y hy => by
  obtain ⟨z, hz, rfl⟩ := Array.mem_map.mp (show y ∈ s.gens.map Asl.sleepG from hy)
  have := h z hz
  cases z <;> exact this
/-- code that the rules know, while a generator sleeps -/
theorem asl_run {α : Type} {t : Sem α} {Q Q' : α → Shared → Prop} {E' : Value → Shared → Prop} {g : Nat} {g1 : GenState} (I : Inv X pins σ H s) (hg : s.gens[g]? = some g1) (hs : Asl.isSusp g1 = true)
    (h : ∀ s0, s0.heap = s.heap → Inv X pins σ H s0 → wpAny (model X.prog X.w) X.A t Q (fun _ _ => False) s0)
    (hQ : ∀ a u s', u.heap = s'.heap → u.gens[g]? = some g1 → (∀ {pins' : List (Addr × Obj)} {σ' : St} {H' : Hp}, Inv X pins' σ' H' s' → Inv X pins' σ' H' u) → Q a s' → Q' a u) : wpAny (model X.prog X.w) X.A t Q' E' s := by
  refine wpAny_mono (Asl.wpAny_asleep (h (Asl.asleep s) rfl (I.gens (allBare_asleep I.bare)))) (fun a u ⟨s', k, q⟩ => ?_) fun x u ⟨s', k, q⟩ => q.elim
  refine hQ a u s' (by rw [k.eq]) (k.same g g1 hg hs) (fun {pins' σ' H'} J => ?_) q
  rw [k.eq]
  exact J.gens (k.bare I.bare J.bare)
end
end L2

end
section
set_option Elab.async false
set_option linter.all false
set_option maxRecDepth 100000
set_option maxHeartbeats 4000000
/-! A list comprehension over a generator def's call: the rule. -/
namespace L2
open PySem PySem.Spec PyProof.Rows GenW
/-- such a program's -/
abbrev Cx.of (Y : Cx) (P : Program) (w : World) (K : PySem.W.Frag) (mg : Str → Option Value) (base : Heap) : Cx := { Y with prog := P, w := w, K := K, mg := mg, base := base }
/-- a generator def that hands out these rows -/
structure GWk (P : Program) (w : World) (K : PySem.W.Frag) (mg : Str → Option Value) (base : Heap) (k : Nat) (x : Str) (f : Addr) (rows : List (List V)) : Prop where
  g : mg x = some (.ref f)
  ex : ∃ (qual : Str) (params : Arguments) (body : List Stmt) (scope : Scope) (fd : FuncData) (N : List Str), FunD K x qual params body scope [] [] f fd ∧ Binds K fd [] [] ∧ GScope N [] scope ∧ (∀ y ∈ scope.names, y.2 ≠ .cell) ∧
    ∀ (Y : Cx) (pins : List (Addr × Obj)) (L : Addr) (cdv : Value) (Ac : Around) (U : Nat → St → Hp → Prop), Room k Ac → GSt (Y.of P w K mg base) pins (envOfC qual scope L f cdv) Ac.in1 →
      ∃ t, GSs2 (Xg (Y.of P w K mg base) N (envOfC qual scope L f cdv) Ac) (Cc (Y.of P w K mg base) pins (envOfC qual scope L f cdv) U) (Pvt (Y.of P w K mg base) pins L) (HdR L rows) body t ∧
        ∀ b : Ix, t { nx := fun i b _ H => Kp (hbx L b) H ∧ i = rows.length, rt := fun i b v H => v = .non ∧ Kp (hbx L b) H ∧ i = rows.length } 0 b (start N []) (hbx L b)
/-- [elt for target in g() if ..] -/
def tLcG (rows : List (List V)) (g : TG) (tt : TT) (te : TE) (vs : List Nat) : TE := fun σ H Q => ∀ D, H D = none → ∃ W : Nat → Hp → Prop, W 0 (upd H D (.lst [])) ∧
  (∀ i H a ws H', rows[i]? = some ws → W i H → H a = none → H' a = some (.tup ws) → Kp H H' → g (.ref a) (wipe σ vs) H' fun σ2 H2 => wipe σ2 vs = wipe σ vs ∧ tt σ2 H2 fun b H3 =>
    if b = true then te σ2 H3 fun y H4 => ∃ acc, H4 D = some (.lst acc) ∧ acc.length < sizeLine ∧ W (i + 1) (upd H4 D (.lst (acc ++ [y]))) else W (i + 1) H3) ∧
  ∀ H H', W rows.length H → Kp H H' → Q (.ref D) H'
def holes (h : Heap) (L : Addr) : List Addr := (List.range h.objs.size).filter fun b => decide (L < b) && (h.get? b).isNone
theorem mem_holes {h : Heap} {L a : Addr} : a ∈ holes h L ↔ a < h.objs.size ∧ L < a ∧ h.get? a = none := by
  unfold holes
  rw [List.mem_filter, List.mem_range]
  simp
theorem cellsFrom_no : ∀ (names : List (Str × NameKind)) (n : Nat) (acc : List (Str × Addr)), (∀ y ∈ names, y.2 ≠ .cell) → cellsFrom n names acc = acc
  | [], _, _, _ => rfl
  | (m, k) :: r, n, acc, h => by
    unfold cellsFrom
    have hk : ¬ (k == NameKind.cell) = true := fun z => h (m, k) List.mem_cons_self (by simpa using z)
    rw [if_neg hk]
    exact cellsFrom_no r n acc fun y hy => h y (List.mem_cons_of_mem _ hy)
section
variable {X : Cx}
theorem lcG_core {pins : List (Addr × Obj)} {s : Shared} {σ : St} {H : Hp} {Q : VK} {elt tg : Expr} {ifs : List Expr} {scope : Scope} {own : List (Str × Nat)} {pos pos' p2 pos2 : Pos} {x : Str} {f : Addr} {k : Nat} {rows : List (List V)} {g : TG} {tt : TT} {te : TE} {use : Option (Value → Sem Unit)} {Qf : Value → Shared → Prop}
    (hc : X.calm = true) (hN : X.N.Nodup) (I : Inv X pins σ H s) (G : GWk X.prog X.w X.K X.mg X.base k x f rows) (hr : Room (k + 1) X.A) (hgl : Gl X x) (hz : rows.length < sizeLine) (ok : BlkOk X.N X.env.scope scope own)
    (hg : ∀ (s : Shared) (H : Hp) (C : Addr) (cl : List (Str × Addr)) (fp : List Addr), PG (X.blk s H scope (compEnvC scope cl C X.env) fp) tg g) (ht : ∀ (s : Shared) (H : Hp) (C : Addr) (cl : List (Str × Addr)) (fp : List Addr), PTs (X.blk s H scope (compEnvC scope cl C X.env) fp) ifs tt)
    (he : ∀ (s : Shared) (H : Hp) (C : Addr) (cl : List (Str × Addr)) (fp : List Addr), PE (X.blk s H scope (compEnvC scope cl C X.env) fp) elt te) (hs : ∀ y, foldedSetIterable (.Call (.Name x p2) [] [] pos2) X.env y = pure y) (hdb : (x == ("__debug__" : Str)) = false)
    (h : tLcG rows g tt te (own.map (·.2)) σ H Q)
    (hRR : ∀ D C s' m H', Inv X pins σ H' s' → Q (.ref D) H' → s'.heap.Ns C m → FpOk X pins H' C → compPost (model X.prog X.w) X.A X.xe use Qf (.ref D) C (.ok .next) s') :
    wpAny (model X.prog X.w) X.A (comprehension (.ListComp elt [⟨tg, .Call (.Name x p2) [] [] pos2, ifs, 0⟩] scope pos) scope X.env pos' (newList []) false (eval (.Call (.Name x p2) [] [] pos2) X.env) use) Qf X.xe s := by
  have hfree : ∀ y ∈ scope.names, y.2 = .free → ∃ c, X.env.cells.lookup y.1 = some c := fun y hy e => by
    rcases ok.free y hy e with k | k
    · exact I.ok.has _ (.inl k)
    · exact I.ok.has _ (.inr k)
  obtain ⟨qual, params, body, gscope, fd, N, F, hb, S, hnc, bodyOk⟩ := G.ex
  refine wpAny_comprehension_free (use := use) rfl hs (closure_ok hfree) ok.kind (fun y hy e => by rw [ok.uniq y hy, e])
    (wpAny_Call_Name_kw (ld_glob I hgl G.g (PySem.W.callWith_K0 (first := []) I.kIn F.kp (gen_call F S hb hr.depth I fun a gi cdv go oL s2 GL => wpAny_pyIter_gen (GL.isg _ GL.obj) ?_)) hdb))
  obtain ⟨I2, kp2, gabove, gobj, gisg, gcls, gloc, gnocell, gnames, gfresh⟩ := GL
  generalize hL : s.heap.objs.size = L at gabove gloc gnames gfresh
  have lt2 : L < s2.heap.objs.size := Heap.lt_size gloc
  refine wpAny_newObj_type (newEnv_comp ?_) (by show 0 ≤ sizeLine; decide)
  generalize hD : s2.heap.objs.size = D
  have hDn : H D = none := I2.hok.fresh (Nat.le_of_eq hD)
  obtain ⟨W, w0, step, fin⟩ := h D hDn
  generalize hs3 : ({ s2 with heap := s2.heap.push { cls := .type "list", data := .seq ([] : List Value).toArray } } : Shared) = s3
  have h3 : s3.heap = s2.heap.push { cls := .type "list", data := .seq ([] : List Value).toArray } := by rw [← hs3]
  have k3 : ∀ b o, s2.heap.get? b = some o → s3.heap.get? b = some o := fun b o e => by rw [h3]; exact Heap.get?_push_of_some _ e
  have I3 : Inv X pins σ (upd H D (.lst [])) s3 := by
    rw [← hs3]
    refine I2.laid (t' := s2.toks) (fun b o e => Heap.get?_push_of_some _ e) (Nat.le_of_eq hD) ⟨Nat.zero_le _, [], 0, .nil, ?_⟩
    rw [← hD]
    exact Heap.get?_push_size _ rfl
  have eD : s3.heap.get? D ≠ none := by
    rw [h3, ← hD, Heap.get?_push_size _ rfl]
    nofun
  have eL : s3.heap.get? L = some oL := k3 _ _ gloc
  have ea : s3.heap.get? a = some go := k3 _ _ gobj
  have gen3 : s3.gens = s2.gens := by rw [← hs3]
  have lt3 : L < s3.heap.objs.size := Heap.lt_size eL
  -- the generator's own places
  have fpNew : ∀ b ∈ L :: holes s3.heap L, s.heap.objs.size ≤ b ∧ b < s3.heap.objs.size ∧ (upd H D (.lst [])) b = none := fun b hb => by
    rcases List.mem_cons.mp hb with z | z
    · subst z
      refine ⟨Nat.le_of_eq hL, lt3, ?_⟩
      rw [upd_ne (by rw [← hD]; exact Nat.ne_of_lt lt2)]
      exact I.hok.fresh (Nat.le_of_eq hL)
    · obtain ⟨z1, z2, z3⟩ := mem_holes.mp z
      refine ⟨by rw [hL]; exact Nat.le_of_lt z2, z1, ?_⟩
      rw [upd_ne (fun q => eD (by rw [← q]; exact z3))]
      exact I.hok.fresh (by rw [hL]; exact Nat.le_of_lt z2)
  have f3 : ∀ b ∈ L :: holes s3.heap L, FpOk X pins (upd H D (.lst [])) b ∧ b < s3.heap.objs.size := fun b hb =>
    ⟨I.fpOk (fpNew b hb).1 (fpNew b hb).2.2, (fpNew b hb).2.1⟩
  have naFp : a ∉ L :: holes s3.heap L := fun hb => by
    rcases List.mem_cons.mp hb with z | z
    · rw [z] at gabove
      exact absurd gabove (Nat.lt_irrefl _)
    · rw [(mem_holes.mp z).2.2] at ea
      cases ea
  have nL3 : (upd H D (.lst [])) L = none := (fpNew L List.mem_cons_self).2.2
  have na3 : (upd H D (.lst [])) a = none := by
    rw [upd_ne (by rw [← hD]; exact Nat.ne_of_lt (Heap.lt_size gobj))]
    exact I.hok.fresh (by rw [hL]; exact Nat.le_of_lt gabove)
  have hlowL : ∀ b ∈ frs X.stack, b < L := fun b hb => by
    obtain ⟨_, o, e, _⟩ := I.stack.mem hb
    have := Heap.lt_size e
    rw [← hL]
    exact this
  have I4 := block_start I3 ok hN f3
  have pg := hg s3 (upd H D (.lst [])) s3.heap.objs.size (cellsFrom (s3.heap.objs.size + 1) scope.names (cloFrom X.env.cells scope.names [])) (L :: holes s3.heap L)
  have pt := ht s3 (upd H D (.lst [])) s3.heap.objs.size (cellsFrom (s3.heap.objs.size + 1) scope.names (cloFrom X.env.cells scope.names [])) (L :: holes s3.heap L)
  have pe := he s3 (upd H D (.lst [])) s3.heap.objs.size (cellsFrom (s3.heap.objs.size + 1) scope.names (cloFrom X.env.cells scope.names [])) (L :: holes s3.heap L)
  show codeAny _ _ (.compStart (.ListComp elt [⟨tg, .Call (.Name x p2) [] [] pos2, ifs, 0⟩] scope pos) 0 (.ref a) (.ref D) (compEnvC scope (cellsFrom (s3.heap.objs.size + 1) scope.names (cloFrom X.env.cells scope.names [])) s3.heap.objs.size X.env))
    (compPost (model X.prog X.w) X.A X.xe use Qf (.ref D) s3.heap.objs.size) { s3 with heap := pushCells (s3.heap.push { cls := .type "dict", data := .dict #[] }) scope.names }
  generalize hce : compEnvC scope (cellsFrom (s3.heap.objs.size + 1) scope.names (cloFrom X.env.cells scope.names [])) s3.heap.objs.size X.env = ce at I4 pg pt pe ⊢
  have cL : ce.locals = s3.heap.objs.size := by subst hce; rfl
  generalize hH3 : upd H D (.lst []) = H3 at I3 I4 pg pt pe w0 nL3 na3 f3 fpNew
  generalize hfp : L :: holes s3.heap L = fp at I4 pg pt pe f3 naFp fpNew
  generalize hs4 : ({ s3 with heap := pushCells (s3.heap.push { cls := .type "dict", data := .dict #[] }) scope.names } : Shared) = s4 at I4 ⊢
  have k4 : ∀ b o, s3.heap.get? b = some o → s4.heap.get? b = some o := fun b o e => by rw [← hs4]; exact pushCells_keeps _ _ _ _ (Heap.get?_push_of_some _ e)
  have gen4 : s4.gens = s2.gens := by rw [← hs4]; exact gen3
  have hLfp : L ∈ fp := by rw [← hfp]; exact List.mem_cons_self
  have gkeys : ∀ y, gscope.names.lookup y ≠ some .cell ∧ gscope.names.lookup y ≠ some .free := fun y =>
    ⟨fun e => hnc _ (PySem.mem_of_lookup e) rfl, fun e => S.nofree _ (PySem.mem_of_lookup e) rfl⟩
  have GS : GSt (X.blk s3 H3 scope ce fp) [] (envOfC qual gscope L f cdv) X.A.in1 := by
    refine ⟨S.kind, rfl, rfl, rfl, I.ok.hd hc, I.ok.frames, fun y => ?_, fun y => gkeys y, hlowL, ?_, ?_, .inl hLfp, fun q hq => ?_, fun b h1 h2 h4 => ?_⟩
    · show (cellsFrom (L + 1) gscope.names []).lookup y = none
      rw [cellsFrom_no _ _ _ hnc]
      rfl
    · show X.base.objs.size ≤ L
      rw [← hL]
      exact Nat.le_trans I.ok.bsz I.sz
    · show ce.locals ≠ L
      rw [cL]
      exact Nat.ne_of_gt lt3
    · exact absurd (show q ∈ ([] : List (Addr × Obj)) ++ [] from hq) (by simp)
    · show b ∈ fp
      rw [← hfp]
      exact List.mem_cons_of_mem _ (mem_holes.mpr ⟨h2, h1, h4⟩)
  generalize hU : (fun (n : Nat) (σc : St) (H : Hp) => σc = wipe σ (own.map (·.2)) ∧ ∃ i, n + i = sizeLine ∧ W i H : Nat → St → Hp → Prop) = U
  obtain ⟨t, bOk, tOk⟩ := bodyOk (X.blk s3 H3 scope ce fp) [] L cdv X.A U (hr.mono (Nat.le_succ k)) GS
  have go0 : GoesAt (X.blk s3 H3 scope ce fp) [] N (envOfC qual gscope L f cdv) X.A U (HdR L rows) (fun i => i = rows.length) sizeLine [] (start N []) (.fresh (.func body (envOfC qual gscope L f cdv))) := fresh_goes bOk tOk
  -- the generator's object is nobody's to turn
  have gobj' : ∀ {pins' : List (Addr × Obj)} {σ' : St} {H' : Hp} {s' : Shared}, Inv (X.blk s3 H3 scope ce fp) pins' σ' H' s' → s'.heap.get? a = some go := fun {pins' σ' H' s'} J =>
    J.base.keep a go ea na3 (fun q => by
      have := hlowL a q
      exact absurd (Nat.lt_trans this gabove) (Nat.lt_irrefl _)) naFp
  have pinL4 : Inv (X.blk s3 H3 scope ce fp) ([] ++ (L, oL) :: []) (wipe σ (own.map (·.2))) H3 s4 := by
    refine I4.pins_of fun p hp => ?_
    obtain rfl : p = (L, oL) := by simpa using hp
    refine ⟨k4 _ _ eL, nL3, ?_, fun q => ?_, gnocell⟩
    · show L ≠ ce.locals
      rw [cL]
      exact Nat.ne_of_lt lt3
    · exact absurd (hlowL L (frs_sub I4.ok L q)) (Nat.lt_irrefl _)
  have loop : codeAny (model X.prog X.w) X.A (.compLoop (.ListComp elt [⟨tg, .Call (.Name x p2) [] [] pos2, ifs, 0⟩] scope pos) 0 (.ref a) (.ref D) ce) (compPost (model X.prog X.w) X.A X.xe use Qf (.ref D) s3.heap.objs.size) s4 := by
    refine compLoop_any (fun n s' => 1 ≤ n ∧ ∃ (i : Nat) (ip : List (Addr × Obj)) (σg : St) (oL : Obj) (gs : GenState) (H' : Hp), n + i = sizeLine ∧ i ≤ rows.length ∧ W i H' ∧ Inv (X.blk s3 H3 scope ce fp) ([] ++ (L, oL) :: ip) (wipe σ (own.map (·.2))) H' s' ∧ LocOk N (envOfC qual gscope L f cdv) σg oL ∧ σg.length = N.length ∧
        (∀ p ∈ ip, Pvt (X.blk s3 H3 scope ce fp) [] L p.1) ∧ s'.gens[gi]? = some gs ∧ GoesAt (X.blk s3 H3 scope ce fp) [] N (envOfC qual gscope L f cdv) X.A U (HdR L rows) (fun i => i = rows.length) n ip σg gs) ?_ sizeLine
      ⟨by decide, 0, [], start N [], oL, _, H3, Nat.add_zero _, Nat.zero_le _, w0, pinL4, gnames, by simp [start], fun p hp => (by cases hp), by rw [gen4]; exact gfresh, go0⟩
    rintro n s5 ⟨hn, i, ip, σg, oL5, gs, H5, hni, hi, w5, I5, loc5, len5, ip5, gs5, go5⟩
    have turn := gen_turn (Xc := X.blk s3 H3 scope ce fp) (pins := []) (N := N) (env := envOfC qual gscope L f cdv) (Ac := X.A) (U := U) (Hd := HdR L rows) (Dn := fun i => i = rows.length) (E := fun _ _ => False) GS (I.ok.hd hc) hr.depth hn I5 loc5 len5 ip5 (gisg _ (gobj' I5)) gs5 (by rw [← hU]; exact ⟨rfl, i, hni, w5⟩) go5
    refine thnF turn fun r s6 h6 => ?_
    cases r with
    | none =>
      obtain ⟨i6, b6, σc6, H6, e6, u6, I6, kp6, d6⟩ := h6
      rw [← hU] at u6
      obtain ⟨rfl, i7, e7, w6⟩ := u6
      obtain rfl : i6 = i7 := by omega
      subst d6
      have qq := fin b6.H _ w6 kp6
      have I7 : Inv X pins σ (backH L b6 H6) s6 := I3.call' (ch := fp) I6.os I6.base I6.hok I6.bare fun b hb => ⟨(f3 b hb).1.2.2.2.1, (f3 b hb).1.2.1, (f3 b hb).1.2.2.2.2.1, (f3 b hb).1.2.2.2.2.2⟩
      have nC : (backH L b6 H6) s3.heap.objs.size = none := by
        have z : (backH L b6 H6) ce.locals = none := I6.free
        rw [cL] at z
        exact z
      obtain ⟨m, hn, _⟩ := I6.loc
      have hn : s6.heap.Ns ce.locals m := hn
      rw [cL] at hn
      exact hRR D s3.heap.objs.size s6 m _ I7 qq hn (I3.fpOk (Nat.le_refl _) nC)
    | some v =>
      obtain ⟨m, i6, b6, σc6, x6, ip6, σg6, oL6, g1, H6, rfl, e6, u6, rv, I6, loc6, len6, hip6, gs6, susp, go6, kp6, hd6⟩ := h6
      rw [← hU] at u6
      obtain ⟨rfl, i7, e7, w6⟩ := u6
      obtain rfl : i6 = i7 := by omega
      obtain ⟨p6, ws, rfl, hrow, hp6, hx6⟩ := hd6
      have nb6 : b6.H p6 = none := by
        cases q : b6.H p6 with
        | none => rfl
        | some y => rw [hbx_some q] at hx6; cases hx6
      have tup6 : backH L b6 H6 p6 = some (.tup ws) := by rw [backH_new hx6]; exact hp6
      have st := step i6 b6.H p6 ws (backH L b6 H6) hrow w6 nb6 tup6 kp6
      obtain rfl : v = Value.ref p6 := rv
      have go6' := gobj' I6
      obtain ⟨go', nm, qn, ego, cgo, dgo, sgo⟩ := gisg _ go6'
      refine go_of ego cgo dgo (by decide) ?_
      have ilt : i6 < rows.length := (List.getElem?_eq_some_iff.mp hrow).1
      -- the turn's end
      have last : ∀ {s' : Shared} {σ8 : St} {H' : Hp}, wipe σ8 (own.map (·.2)) = wipe σ (own.map (·.2)) → Inv (X.blk s3 H3 scope ce fp) ([] ++ (L, oL6) :: ip6) σ8 H' s' → s'.gens[gi]? = some g1 → W (i6 + 1) H' → ∃ m', m' < m + 1 ∧ 1 ≤ m' ∧ ∃ (i : Nat) (ip : List (Addr × Obj)) (σg : St) (oL : Obj) (gs : GenState) (H' : Hp), m' + i = sizeLine ∧ i ≤ rows.length ∧ W i H' ∧ Inv (X.blk s3 H3 scope ce fp) ([] ++ (L, oL) :: ip) (wipe σ (own.map (·.2))) H' s' ∧ LocOk N (envOfC qual gscope L f cdv) σg oL ∧ σg.length = N.length ∧
          (∀ p ∈ ip, Pvt (X.blk s3 H3 scope ce fp) [] L p.1) ∧ s'.gens[gi]? = some gs ∧ GoesAt (X.blk s3 H3 scope ce fp) [] N (envOfC qual gscope L f cdv) X.A U (HdR L rows) (fun i => i = rows.length) m' ip σg gs := fun {s' σ8 H'} hw I8 hg8 w8 => by
        have hl : (wipe σ (own.map (·.2))).length = σ8.length := by rw [← hw, wipe_length]
        refine ⟨m, Nat.lt_succ_self m, by omega, i6 + 1, ip6, σg6, oL6, g1, H', by omega, ilt, w8, I8.weak hl (fun j v e => ?_), loc6, len6, hip6, hg8, go6⟩
        rw [← hw] at e
        exact (wipe_some e).1
      refine asl_run (X := X.blk s3 H3 scope ce fp) I6 gs6 susp (fun s0 _ J0 => pg.run _ s0 _ _ (V.ref p6) (Value.ref p6) _ J0 rfl st) (fun _ u7 s7 hh7 gs7 up7 ⟨σ8, H8, I8, hw8, q8⟩ => ?_)
      have I8 := up7 I8
      refine asl_run (X := X.blk s3 H3 scope ce fp) I8 gs7 susp (fun s0 _ J0 => pt.run _ s0 σ8 H8 _ J0 q8) (fun b u9 s9 hh9 gs9 up9 ⟨H9, I9, q9⟩ => ?_)
      have I9 := up9 I9
      cases b with
      | false =>
        simp only [Bool.false_eq_true, if_false] at q9 ⊢
        exact last hw8 I9 gs9 q9
      | true =>
        simp only [if_true] at q9 ⊢
        refine asl_run (X := X.blk s3 H3 scope ce fp) I9 gs9 susp (fun s0 _ J0 => pe.run _ s0 σ8 H9 _ J0 q9) (fun z u10 s10 hh10 gs10 up10 ⟨yv, H10, I10, r10, acc, hD10, hz10, nx⟩ => ?_)
        have I10 := up10 I10
        refine asl_run (X := X.blk s3 H3 scope ce fp) I10 gs10 susp (fun s0 _ J0 => app_ok (X := X.blk s3 H3 scope ce fp) (Q := fun _ s' => Inv (X.blk s3 H3 scope ce fp) ([] ++ (L, oL6) :: ip6) σ8 (upd H10 D (.lst (acc ++ [yv]))) s') J0 hD10 hz10 r10 fun s11 I11 => I11) (fun _ u11 s11 hh11 gs11 up11 I11 => ?_)
        exact last hw8 (up11 I11) gs11 nx
  exact codeAny_compStart_list loop (wpAny_pyIter_gen (gisg _ (k4 _ _ ea)) loop)
end
end L2

end
section
set_option Elab.async false
set_option linter.all false
set_option maxRecDepth 100000
set_option maxHeartbeats 4000000
/-! Its forms; a generator def of three loops. -/
namespace L2
open PySem PySem.Spec PyProof.Rows GenW
open Fu (iAny)
section
variable {X : Cx}
theorem pe_lcG {elt tg : Expr} {ifs : List Expr} {scope : Scope} {own : List (Str × Nat)} {pos p2 pos2 : Pos} {x : Str} {f : Addr} {k : Nat} {rows : List (List V)} {g : TG} {tt : TT} {te : TE} (hc : X.calm = true) (hN : X.N.Nodup) (G : GWk X.prog X.w X.K X.mg X.base k x f rows) (hz : rows.length < sizeLine) (hr : Room (k + 1) X.A) (hgl : Gl X x) (ok : BlkOk X.N X.env.scope scope own)
    (hg : ∀ (s : Shared) (H : Hp) (C : Addr) (cl : List (Str × Addr)) (fp : List Addr), PG (X.blk s H scope (compEnvC scope cl C X.env) fp) tg g) (ht : ∀ (s : Shared) (H : Hp) (C : Addr) (cl : List (Str × Addr)) (fp : List Addr), PTs (X.blk s H scope (compEnvC scope cl C X.env) fp) ifs tt)
    (he : ∀ (s : Shared) (H : Hp) (C : Addr) (cl : List (Str × Addr)) (fp : List Addr), PE (X.blk s H scope (compEnvC scope cl C X.env) fp) elt te) (hdb : (x == ("__debug__" : Str)) = false := by decide) (hs : ∀ y, foldedSetIterable (.Call (.Name x p2) [] [] pos2) X.env y = pure y := by intro _; rfl) :
    PE X (.ListComp elt [⟨tg, .Call (.Name x p2) [] [] pos2, ifs, 0⟩] scope pos) (tLcG rows g tt te (own.map (·.2))) := by
  refine ⟨fun pins s σ H Q I h => ?_⟩
  rw [eval_ListComp]
  refine lcG_core hc hN I G hr hgl hz ok hg ht he hs hdb h fun D C s' m H' I' q hn f => ⟨m, hn, fun h2 sb => ?_⟩
  exact ⟨.ref D, H', I'.turned (t' := s'.toks) (fun b o hb e => (sb.2 b hb).trans e) f.1 f.2.1 f.2.2.2.1 f.2.2.2.2.1 f.2.2.2.2.2, rfl, q⟩
theorem ps_setLcG {i : Nat} {y : Str} {py : Pos} {elt tg : Expr} {ifs : List Expr} {scope : Scope} {own : List (Str × Nat)} {pos p2 pos2 spos : Pos} {x : Str} {f : Addr} {k : Nat} {rows : List (List V)} {g : TG} {tt : TT} {te : TE} (hc : X.calm = true) (hN : X.N.Nodup) (hy : X.N[i]? = some y) (hyl : X.env.scope.names.lookup y = some .local)
    (hsw : swapsWith (.ListComp elt [⟨tg, .Call (.Name x p2) [] [] pos2, ifs, 0⟩] scope pos) (some (.Name y py)) spos.line X.env = pure true) (G : GWk X.prog X.w X.K X.mg X.base k x f rows) (hz : rows.length < sizeLine) (hr : Room (k + 1) X.A) (hgl : Gl X x) (ok : BlkOk X.N X.env.scope scope own)
    (hg : ∀ (s : Shared) (H : Hp) (C : Addr) (cl : List (Str × Addr)) (fp : List Addr), PG (X.blk s H scope (compEnvC scope cl C X.env) fp) tg g) (ht : ∀ (s : Shared) (H : Hp) (C : Addr) (cl : List (Str × Addr)) (fp : List Addr), PTs (X.blk s H scope (compEnvC scope cl C X.env) fp) ifs tt)
    (he : ∀ (s : Shared) (H : Hp) (C : Addr) (cl : List (Str × Addr)) (fp : List Addr), PE (X.blk s H scope (compEnvC scope cl C X.env) fp) elt te) (hdb : (x == ("__debug__" : Str)) = false := by decide) (hs : ∀ y, foldedSetIterable (.Call (.Name x p2) [] [] pos2) X.env y = pure y := by intro _; rfl) :
    PS X (.Assign [.Name y py] (.ListComp elt [⟨tg, .Call (.Name x p2) [] [] pos2, ifs, 0⟩] scope pos) spos) (tAsg (tLcG rows g tt te (own.map (·.2))) (gName i)) := by
  refine ⟨fun pins s σ H D I h => ?_⟩
  rw [exec_Assign_Name_used _ _ _ _ hsw]
  refine wpAny_bind (wpAny_standAt (wpAny_bind ?_))
  show wpAny _ X.A (do let _ ← comprehension (.ListComp elt [⟨tg, .Call (.Name x p2) [] [] pos2, ifs, 0⟩] scope pos) scope X.env (firstIterPos [⟨tg, .Call (.Name x p2) [] [] pos2, ifs, 0⟩] pos) (newList []) false (eval (.Call (.Name x p2) [] [] pos2) X.env) (some (assign (.Name y py) X.env))) _ _ s
  have h : tLcG rows g tt te (own.map (·.2)) σ H (fun x H1 => gName i x σ H1 D.nx) := h
  refine wpAny_bind (thn (lcG_core (Qf := fun _ s' => SP X pins D .next s') hc hN I G hr hgl hz ok hg ht he hs hdb h fun L C s' m H' I' q hn f => ?_) fun _ s' hq => wpAny_pure (wpAny_pure hq))
  show wpAny _ _ (assign (.Name y py) X.env (.ref L)) _ _ _
  refine wpAny_assign_Name (store_ok2 (v := V.ref L) I' hN hy (.inl hyl) rfl (fun s2 I2 ⟨a, sb, ha⟩ => ?_) (.inr hyl))
  obtain ⟨f0, f1, f2, f3, f4, f5⟩ := f
  have haC : C ≠ a := ha.elim (fun z => by rw [z]; exact f1) fun z e => f4 y a z e.symm
  refine ⟨m, hn.sameBut sb haC, fun h3 sb3 => ⟨_, H', I2.turned (t' := s2.toks) (fun b o hb e => (sb3.2 b hb).trans e) f0 f1 f3 f4 f5, q⟩⟩
end
/-- three loops over a constant of the top, a tuple of three handed out in the innermost -/
theorem gwk3 {P : Program} {w : World} {K : PySem.W.Frag} {mg : Str → Option Value} {base : Heap} {x qual : Str} {params : Arguments} {body : List Stmt} {scope : Scope} {f : Addr} {fd : FuncData} {N : List Str} {te : TE} {c : Addr} {xs : List V} (h0 : mg x = some (.ref f)) (F : FunD K x qual params body scope [] [] f fd) (hb : Binds K fd [] []) (S : GScope N [] scope) (hnc : ∀ y ∈ scope.names, y.2 ≠ .cell) (hN : N.length = 3)
    (hte : ∀ σ H Q, Q (.ref c) H → te σ H Q) (hx : ∀ H, SqT K H c xs) (hs : (rowsV xs).length < sizeLine)
    (hbody : ∀ (Y : Cx) (pins : List (Addr × Obj)) (L : Addr) (cdv : Value) (Ac : Around) (U : Nat → St → Hp → Prop), Room 0 Ac → GSt (Y.of P w K mg base) pins (envOfC qual scope L f cdv) Ac.in1 →
      GSs2 (Xg (Y.of P w K mg base) N (envOfC qual scope L f cdv) Ac) (Cc (Y.of P w K mg base) pins (envOfC qual scope L f cdv) U) (Pvt (Y.of P w K mg base) pins L) (HdR L (rowsV xs)) body
        (t2Then (t2For (Xg (Y.of P w K mg base) N (envOfC qual scope L f cdv) Ac) (iAny K te) (gName 0) (t2Then (t2For (Xg (Y.of P w K mg base) N (envOfC qual scope L f cdv) Ac) (iAny K te) (gName 1) (t2Then (t2For (Xg (Y.of P w K mg base) N (envOfC qual scope L f cdv) Ac) (iAny K te) (gName 2) (t2Then (t2Yield (Xg (Y.of P w K mg base) N (envOfC qual scope L f cdv) Ac) (HdR L (rowsV xs)) (tTup (tCons (tVar 0) (tCons (tVar 1) (tCons (tVar 2) tNil))))) t20)) t20)) t20)) t20)) :
    GWk P w K mg base 0 x f (rowsV xs) := by
  refine ⟨h0, qual, params, body, scope, fd, N, F, hb, S, hnc, fun Y pins L cdv Ac U hr G => ⟨_, hbody Y pins L cdv Ac U hr G, fun b => ?_⟩⟩
  have e : start N [] = [none, none, none] := by
    unfold start
    rw [hN]
    rfl
  rw [e]
  exact gen32 (X := Xg (Y.of P w K mg base) N (envOfC qual scope L f cdv) Ac) hte hx hs fun b σ H k => ⟨k, rfl⟩
/-- one of the loops -/
theorem gs2_forC {Y : Cx} {N : List Str} {env : Env} {pins : List (Addr × Obj)} {Ac : Around} {U : Nat → St → Hp → Prop} {Hd : Nat → V → Ix → Hp → Prop} {tg iter : Expr} {body : List Stmt} {wi : TI} {g : TG} {tb : TG2} {pos : Pos} (G : GSt Y pins env Ac.in1) (hi : ∀ b, PI ((Xg Y N env Ac).at b) tg iter wi) (hg : ∀ b, PG ((Xg Y N env Ac).at b) tg g) (hb : GSs2 (Xg Y N env Ac) (Cc Y pins env U) (Pvt Y pins env.locals) Hd body tb)
    (hs : ∀ x, foldedSetIterable iter env x = pure x := by intro _; rfl) : GS2 (Xg Y N env Ac) (Cc Y pins env U) (Pvt Y pins env.locals) Hd (.For tg iter body [] pos) (t2For (Xg Y N env Ac) wi g tb) :=
  gs2_for (fun _ _ z => z) rfl rfl G.cel rfl (fun _ _ _ h => cc_low h) (fun _ _ _ _ h => cc_priv G h) hi hg hb hs
end L2

end
section
set_option Elab.async false
set_option linter.all false
set_option maxRecDepth 100000
set_option maxHeartbeats 4000000
/-! A comprehension over a generator def's call. -/
namespace Fu
open PySem PySem.Spec PyProof.Rows L2
open He (ga)
section
variable {K : PySem.W.Frag} {pv : V × Option Addr} {E : XW} {F O : Addr → Prop} {H H' H1 H3 : Hp} {φ φ' φ1 : List Addr} {S S' S1 : AS} {η η' η1 : Sls} {σ σ' σ1 : L2.St} {D : Ends}
/-- the module's generator def x hands out these -/
structure GGW (P : Program) (w : World) (K : PySem.W.Frag) (mg : Str → Option Value) (base : Heap) (x : Str) (rows : List (List V)) (prs : List PV) : Prop where
  walk : GWk P w K mg base 0 x (ga K x) rows
  small : rows.length < sizeLine
  len : rows.length = prs.length
  val : ∀ (i : Nat) ws, rows[i]? = some ws → ∃ ps, prs[i]? = some (.tup ps) ∧ ∀ H φ M, RVs K H φ M ps ws
def genI (prs : List PV) : FI := fun _ S => .ok prs S
@[simp] theorem e_genI {prs : List PV} : genI prs η S = .ok prs S := rfl
theorem sn_lcG {rows : List (List V)} {prs : List PV} {g : TG} {tt : TT} {te : TE} {vs : List Nat} {fg : FGx} {ft : FT} {fe : FE} (hlen : rows.length = prs.length) (hval : ∀ (i : Nat) ws, rows[i]? = some ws → ∃ ps, prs[i]? = some (.tup ps) ∧ ∀ H φ M, RVs K H φ M ps ws) (hg : SimGx K pv vs g fg) (ht : SimT K pv (fun _ _ _ _ => False) tt ft) (he : SimE K pv (fun _ _ _ _ => False) te fe) :
    SimN K pv E (tLcG rows g tt te vs) (compN (genI prs) vs fg ft fe) := fun H φ S F O η σ Q w hO re h D hD => by
  have h1 : GoE K (E σ) F H φ S (compL fg ft fe prs [] (wipeS η vs) S) (fun xs φ' S' H' => ∀ p vs, H p = none → WF K H' φ' S' (uni F (at1 p)) → H' p = some (.lst vs) → RVs K H' φ' (uni (Lv φ' S') (uni F (at1 p))) xs vs → Q (.ref p) H') := h
  have k0 : ∀ a, H a ≠ none → ¬ uni (Lv φ S) F a → upd H D (.lst []) a = H a ∧ ¬ uni (Lv φ S) (uni F (at1 D)) a := fun a ha m => by
    have ne : a ≠ D := fun z => ha (by rw [z]; exact hD)
    exact ⟨upd_ne ne, fun z => z.elim (fun z => m (.inl z)) fun z => z.elim (fun z => m (.inr z)) ne⟩
  have w0 : WF K (upd H D (.lst [])) φ S (uni F (at1 D)) := by
    have w2 := w.new (o := .lst []) hD
    refine ⟨w2.len, fun n u e => ?_, w2.inj, fun a z => z.elim (w2.away a) fun z => ?_⟩
    · obtain ⟨a, ho, e1, e2, r⟩ := w.live n u e
      exact ⟨a, ho, e1, (upd_ne fun z => by rw [z, hD] at e2; cases e2).trans e2, r.mono k0 fun _ _ h => h⟩
    · rw [show a = D from z]
      exact ⟨by rw [upd_same]; nofun, lv_none w hD⟩
  generalize hr0 : compL fg ft fe prs [] (wipeS η vs) S = r0 at h1
  have inD : ∀ {H2 : Hp} {φ2 : List Addr} {S2 : AS} {H4 : Hp} {φ4 : List Addr} {S4 : AS}, WF K H2 φ2 S2 (uni F (at1 D)) → Ev H2 φ2 (Lv φ2 S2) H4 φ4 (Lv φ4 S4) → ∀ {us : List V}, H2 D = some (.lst us) → H4 D = some (.lst us) := fun w e us hl => (e.keep D (by rw [hl]; nofun) (w.away D (.inr rfl)).2).1.trans hl
  refine ⟨fun i H' => i ≤ prs.length ∧ ∃ φ' S' acc us, r0 = compL fg ft fe (prs.drop i) acc (wipeS η vs) S' ∧ Ev H φ (Lv φ S) H' φ' (Lv φ' S') ∧ WF K H' φ' S' (uni F (at1 D)) ∧ H' D = some (.lst us) ∧ RVs K H' φ' (uni (Lv φ' S') (uni F (at1 D))) acc us,
    ⟨Nat.zero_le _, φ, S, [], [], by rw [List.drop_zero]; exact hr0.symm, ev_new hD, w0, upd_same, .nil⟩, ?_, ?_⟩
  · rintro i H' a ws H3 hrow ⟨hi, φ', S', acc, us, eq, ev, ww, hl, hr⟩ na ea ext
    have kk : ∀ a, H a ≠ none → ¬ uni (Lv φ S) F a → H' a = H a ∧ ¬ uni (Lv φ' S') (uni F (at1 D)) a := fun a h m => by
      obtain ⟨q2, m2⟩ := ev.keep a h fun z => m (.inl z)
      have ne : a ≠ D := fun z => h (by rw [z]; exact hD)
      exact ⟨q2, fun z => z.elim m2 fun z => z.elim (fun z => m (.inr z)) ne⟩
    obtain ⟨ps, hps, rps⟩ := hval i ws hrow
    obtain ⟨hlt, hpe⟩ := List.getElem?_eq_some_iff.mp hps
    rw [List.drop_eq_getElem_cons hlt] at eq
    have rv : RV K H3 φ' (uni (Lv φ' S') (uni F (at1 D))) prs[i] (.ref a) := by
      rw [hpe]
      exact .tup ⟨ea, fun z => z.elim (fun z => lv_some ww z na) fun z => (ww.away a z).1 na⟩ (rps _ _ _)
    have w3 := ww.ext ext
    have e3 : Ev H' φ' (Lv φ' S') H3 φ' (Lv φ' S') := ev_ext ext
    have hO' : ∀ a, O a → uni F (at1 D) a := fun a z => .inl (hO a z)
    have re3 : RE K pv H3 φ' (uni (Lv φ' S') (uni F (at1 D))) O η σ := ⟨re.len, fun i p h => by
      obtain ⟨v, h1, h2⟩ := re.val i p h
      refine ⟨v, h1, h2.mono (fun a h m => ?_) ev.pre⟩
      obtain ⟨q1, m1⟩ := kk a h m
      exact ⟨(ext a (by rw [q1]; exact h)).trans q1, m1⟩, fun i xs h => by
      obtain ⟨a, vs, h1, h2, h3, h4⟩ := re.own i xs h
      have q1 := (ev.keep a (by rw [h2]; nofun) (w.away a (hO a h4)).2).1
      refine ⟨a, vs, h1, (ext a (by rw [q1, h2]; nofun)).trans (q1.trans h2), h3.mono (fun a h m => ?_) ev.pre, h4⟩
      obtain ⟨q1, m1⟩ := kk a h m
      exact ⟨(ext a (by rw [q1]; exact h)).trans q1, m1⟩, fun i fs h => by
      obtain ⟨h1, h2⟩ := re.pin i fs h
      refine ⟨h1, h2.mono (fun a h m => ?_) ev.pre⟩
      obtain ⟨q1, m1⟩ := kk a h m
      exact ⟨(ext a (by rw [q1]; exact h)).trans q1, m1⟩⟩
    have hl3 : H3 D = some (.lst us) := (ext D (by rw [hl]; nofun)).trans hl
    have hr3 := hr.mono (fun a h m => ⟨ext a h, m⟩) fun _ _ h => h
    rw [eq] at h1
    unfold compL at eq h1
    cases q : fg prs[i] (wipeS η vs) with
    | none => rw [q] at h1; exact (show False from h1).elim
    | some η2 =>
      rw [q] at eq h1
      dsimp only at eq h1
      refine hg H3 φ' _ O _ η2 _ _ (.ref a) _ (re3.wipe vs) rv q fun σ2 re2 hwi => ⟨hwi.trans (wipe_idem σ vs vs fun _ h => h), ?_⟩
      refine ht H3 φ' S' (uni F (at1 D)) O η2 σ2 _ w3 hO' re2 ?_
      cases q2 : ft η2 S' with
      | exc c fs S4 => rw [q2] at h1; exact (show False from h1).elim
      | stuck => rw [q2] at h1; exact (show False from h1).elim
      | ok b S4 =>
        rw [q2] at eq h1
        dsimp only [pureR, R.bind_ok] at eq h1
        intro φ4 H4 ev4 w4
        have l4 := inD w3 ev4 hl3
        have r4 := ev4.rvs hr3
        have ev14 := (ev.trans e3).trans ev4
        cases b with
        | false =>
          rw [if_neg Bool.false_ne_true] at eq ⊢
          exact ⟨hlt, φ4, S4, acc, us, eq, ev14, w4, l4, r4⟩
        | true =>
          rw [if_pos rfl] at eq h1 ⊢
          have re4 := re2.mono w3 hO' ev4
          refine he H4 φ4 S4 (uni F (at1 D)) O η2 σ2 _ w4 hO' re4 ?_
          cases q5 : fe η2 S4 with
          | exc c fs S5 => rw [q5] at h1; exact (show False from h1).elim
          | stuck => rw [q5] at h1; exact (show False from h1).elim
          | ok y S5 =>
            rw [q5] at eq h1
            dsimp only [pureR, R.bind_ok] at eq h1
            intro φ5 H5 ev5 w5 yv ry
            split at h1
            · rename_i hsz
              rw [if_pos hsz] at eq
              have l5 := inD w4 ev5 l4
              have r5 := ev5.rvs r4
              refine ⟨us, l5, ?_, ?_⟩
              · rw [r5.len, sizeLine_eq]
                omega
              have ev15 := ev14.trans ev5
              have hlD : ¬ Lv φ5 S5 D := (w5.away D (.inr rfl)).2
              have kw : ∀ a, H5 a ≠ none → ¬ uni (Lv φ5 S5) (uni F (at1 D)) a → upd H5 D (.lst (us ++ [yv])) a = H5 a ∧ ¬ uni (Lv φ5 S5) (uni F (at1 D)) a := fun a h m => ⟨upd_ne fun z => m (.inr (.inr z)), m⟩
              have sw : ∀ a, H5 a ≠ none → upd H5 D (.lst (us ++ [yv])) a ≠ none := fun a h => by
                by_cases e : a = D
                · subst e; rw [upd_same]; nofun
                · rw [upd_ne e]; exact h
              have w6 : WF K (upd H5 D (.lst (us ++ [yv]))) φ5 S5 (uni F (at1 D)) := by
                refine ⟨w5.len, fun n u e => ?_, w5.inj, fun a z => ?_⟩
                · obtain ⟨a, ho, e1, e2, r⟩ := w5.live n u e
                  exact ⟨a, ho, e1, (upd_ne fun z => hlD ⟨n, u, e, by rw [← z]; exact e1⟩).trans e2, r.mono kw fun _ _ h => h⟩
                · obtain ⟨h1, h2⟩ := w5.away a z
                  exact ⟨sw a h1, h2⟩
              refine ⟨hlt, φ5, S5, acc ++ [y], us ++ [yv], eq, ⟨fun a h => sw a (ev15.stay a h), fun a h m => ?_, ev15.pre⟩, w6, upd_same, (r5.append (.cons ry .nil)).mono kw fun _ _ h => h⟩
              obtain ⟨q, m'⟩ := ev15.keep a h m
              exact ⟨(upd_ne fun z => h (by rw [z]; exact hD)).trans q, m'⟩
            · exact h1.elim
  · rintro H4 H' ⟨_, φ', S', acc, us, eq, ev, ww, hl, hr⟩ kp
    rw [hlen, List.drop_length] at eq
    rw [eq] at h1
    have ev' := ev.trans (ev_ext (M := Lv φ' S') (φ := φ') kp)
    exact h1 φ' H' ev' ((ww.ext kp).less fun a z => .inl z) D us hD (ww.ext kp) ((kp D (by rw [hl]; nofun)).trans hl) (hr.mono (fun a h m => ⟨kp a h, m⟩) fun _ _ h => h)
end
inductive Al2 {α β : Type} (R : α → β → Prop) : List α → List β → Prop where
  | nil : Al2 R [] []
  | cons {a : α} {b : β} {l : List α} {m : List β} : R a b → Al2 R l m → Al2 R (a :: l) (b :: m)
theorem al2_iff {α β : Type} {R : α → β → Prop} : ∀ {l : List α} {m : List β}, (l.length = m.length ∧ ∀ (i : Nat) a, l[i]? = some a → ∃ b, m[i]? = some b ∧ R a b) ↔ Al2 R l m
  | [], [] => ⟨fun _ => .nil, fun _ => ⟨rfl, fun i a e => by simp at e⟩⟩
  | [], _ :: _ => ⟨fun h => by simp at h, nofun⟩
  | _ :: _, [] => ⟨fun h => by simp at h, nofun⟩
  | a :: l, b :: m => by
    constructor
    · rintro ⟨h1, h2⟩
      obtain ⟨b', e, r⟩ := h2 0 a rfl
      cases e
      exact .cons r (al2_iff.mp ⟨by simpa using h1, fun i a e => h2 (i + 1) a e⟩)
    · rintro (_ | ⟨r, t⟩)
      obtain ⟨h1, h2⟩ := al2_iff.mpr t
      refine ⟨by simpa using h1, fun i a' e => ?_⟩
      cases i with
      | zero => cases e; exact ⟨b, rfl, r⟩
      | succ i => exact h2 i a' e
theorem Al2.app {α β : Type} {R : α → β → Prop} {l l' : List α} {m m' : List β} (h : Al2 R l m) (h' : Al2 R l' m') : Al2 R (l ++ l') (m ++ m') := by
  induction h with
  | nil => exact h'
  | cons r _ ih => exact .cons r ih
theorem Al2.flat {α β γ δ : Type} {R : α → β → Prop} {T : γ → δ → Prop} {f : α → List γ} {g : β → List δ} {l : List α} {m : List β} (h : Al2 R l m) (hf : ∀ a b, R a b → Al2 T (f a) (g b)) : Al2 T (l.flatMap f) (m.flatMap g) := by
  induction h with
  | nil => exact .nil
  | cons r _ ih => exact (hf _ _ r).app ih
theorem Al2.maps {α β γ δ : Type} {R : α → β → Prop} {T : γ → δ → Prop} {f : α → γ} {g : β → δ} {l : List α} {m : List β} (h : Al2 R l m) (hf : ∀ a b, R a b → T (f a) (g b)) : Al2 T (l.map f) (m.map g) := by
  induction h with
  | nil => exact .nil
  | cons r _ ih => exact .cons (hf _ _ r) ih
/-- the values of three loops -/
theorem vals3 {K : PySem.W.Frag} {xs : List V} {qs : List PV} (hl : xs.length = qs.length) (hq : ∀ (i : Nat) x, xs[i]? = some x → ∃ p, qs[i]? = some p ∧ ∀ H φ M, RV K H φ M p x) : (rowsV xs).length = (rows3 qs).length ∧ ∀ (i : Nat) ws, (rowsV xs)[i]? = some ws → ∃ ps, (rows3 qs)[i]? = some (.tup ps) ∧ ∀ H φ M, RVs K H φ M ps ws := by
  have h0 : Al2 (fun x p => ∀ H φ M, RV K H φ M p x) xs qs := al2_iff.mp ⟨hl, hq⟩
  have h1 : Al2 (fun ws q => ∃ ps, q = PV.tup ps ∧ ∀ H φ M, RVs K H φ M ps ws) (rowsV xs) (rows3 qs) :=
    h0.flat fun a a' ra => h0.flat fun b b' rb => h0.maps fun c c' rc => ⟨_, rfl, fun H φ M => .cons (ra H φ M) (.cons (rb H φ M) (.cons (rc H φ M) .nil))⟩
  obtain ⟨q1, q2⟩ := al2_iff.mpr h1
  refine ⟨q1, fun i ws e => ?_⟩
  obtain ⟨q, e1, ps, rfl, r⟩ := q2 i ws e
  exact ⟨ps, e1, r⟩
end Fu

end
section
set_option Elab.async false
set_option linter.all false
set_option maxRecDepth 100000
set_option maxHeartbeats 4000000
/-! A list that lived and that nobody changes any more: a value. -/
namespace Fu
open PySem PySem.Spec PyProof.Rows L2
def freezeF (f : FE) : FE := fun η S => (f η S).bind fun p S => match p with
  | .ref n => match S[n]? with
    | some (some (.lst ps)) => .ok (.lst ps) (S.set n none)
    | _ => .stuck
  | _ => .stuck
section
variable {K : PySem.W.Frag} {pv : V × Option Addr} {E : XW} {φ : List Addr} {S : AS}
theorem get_put {n m : Nat} {o : AO} (e1 : (S.set n none)[m]? = some (some o)) : S[m]? = some (some o) ∧ m ≠ n := by
  rw [List.getElem?_set] at e1
  split at e1
  · split at e1 <;> cases e1
  · exact ⟨e1, fun z => ‹¬ n = m› z.symm⟩
theorem lv_put {n : Nat} {a : Addr} (h : Lv φ (S.set n none) a) : Lv φ S a :=
  let ⟨m, o, e1, e2⟩ := h
  ⟨m, o, (get_put e1).1, e2⟩
theorem se_freeze {t : TE} {f : FE} (s : SimE K pv E t f) : SimE K pv E t (freezeF f) := fun H φ S F O η σ Q w hO re h => by
  refine s H φ S F O η σ _ w hO re (h.bind.imp fun pl φ1 S1 H1 e1 w1 h1 v rv => ?_)
  split at h1
  case h_2 => exact h1.elim
  rename_i n
  have hv : ∃ a, v = V.ref a := by cases rv; exact ⟨_, rfl⟩
  obtain ⟨a, rfl⟩ := hv
  have en : φ1[n]? = some a := by cases rv; assumption
  split at h1
  case h_2 => exact h1.elim
  rename_i ps eps
  obtain ⟨b, ho, ea, eh, ro⟩ := w1.live n _ eps
  have eb : b = a := by rw [en] at ea; exact (Option.some.inj ea).symm
  rw [eb] at eh
  have na : ¬ Lv φ1 (S1.set n none) a := fun ⟨m, o, q1, q2⟩ => (get_put q1).2 (w1.inj m n a o _ (get_put q1).1 eps q2 en)
  have nF : ¬ F a := fun z => (w1.away a z).2 ⟨n, _, eps, en⟩
  have less : ∀ b, H1 b ≠ none → ¬ uni (Lv φ1 S1) F b → H1 b = H1 b ∧ ¬ uni (Lv φ1 (S1.set n none)) F b := fun b _ m => ⟨rfl, fun z => z.elim (fun z => m (.inl (lv_put z))) fun z => m (.inr z)⟩
  have w2 : WF K H1 φ1 (S1.set n none) F := by
    refine ⟨by rw [List.length_set]; exact w1.len, fun m u e => ?_, fun m m' b o u q1 q2 => w1.inj m m' b o u (get_put q1).1 (get_put q2).1, fun b z => ⟨(w1.away b z).1, fun q => (w1.away b z).2 (lv_put q)⟩⟩
    obtain ⟨c, hc, c1, c2, r⟩ := w1.live m u (get_put e).1
    exact ⟨c, hc, c1, c2, r.mono less fun _ _ h => h⟩
  cases ro with
  | lst r => exact h1 φ1 H1 ⟨fun _ h => h, fun b hb m => ⟨rfl, fun z => m (lv_put z)⟩, fun _ _ h => h⟩ w2 (.ref a) (.lst ⟨eh, fun z => z.elim na nF⟩ (r.mono less fun _ _ h => h))
@[simp] theorem e_freeze {f : FE} {η : Sls} {S S1 : AS} {n : Nat} {ps : List PV} (h : f η S = .ok (.ref n) S1) (h2 : S1[n]? = some (some (.lst ps))) : freezeF f η S = .ok (.lst ps) (S1.set n none) := by
  unfold freezeF
  rw [h]
  show (match S1[n]? with
    | some (some (.lst ps)) => R.ok (PV.lst ps) (S1.set n none)
    | _ => R.stuck) = _
  rw [h2]
end
end Fu

end
section
set_option Elab.async false
set_option linter.all false
set_option maxRecDepth 100000
set_option maxHeartbeats 4000000
namespace T04
open PySem PySem.Spec PyProof.Rows L2
open He (ga ma ba)
def top (i : Nat) : Stmt := PySem.Challenge.pw_bookstogether_k04_whole_closed_tables.main.body.getD i (.Pass ⟨0, 0, 0, 0⟩)
abbrev s_wall : Stmt := top 0
abbrev s_ZeroDivisor_init : Stmt := inClass (top 4) 0
abbrev s_Truth_init : Stmt := inClass (top 8) 1
abbrev s_Truth_of : Stmt := inClass (top 8) 2
abbrev s_Truth_from_word : Stmt := inClass (top 8) 3
abbrev s_Truth_value : Stmt := inClass (top 8) 4
abbrev s_Truth_word : Stmt := inClass (top 8) 5
abbrev s_Truth_and : Stmt := inClass (top 8) 6
abbrev s_Truth_or : Stmt := inClass (top 8) 7
abbrev s_Truth_xor : Stmt := inClass (top 8) 8
abbrev s_Truth_invert : Stmt := inClass (top 8) 9
abbrev s_Truth_eq : Stmt := inClass (top 8) 10
abbrev s_Truth_ne : Stmt := inClass (top 8) 11
abbrev s_Truth_lt : Stmt := inClass (top 8) 12
abbrev s_Truth_le : Stmt := inClass (top 8) 13
abbrev s_Truth_bool : Stmt := inClass (top 8) 14
abbrev s_truth : Stmt := top 10
abbrev s_simple_value : Stmt := top 11
abbrev s_quotient_value : Stmt := top 12
abbrev s_all_rows : Stmt := top 15
abbrev s_outcome : Stmt := top 17
abbrev s_outcomes : Stmt := top 18
abbrev s_true_rows : Stmt := top 19
abbrev s_live_rows : Stmt := top 20
abbrev s_escape : Stmt := top 21
abbrev s_alike : Stmt := top 22
abbrev s_box : Stmt := top 24
abbrev s_draw : Stmt := top 25
abbrev s_condition : Stmt := top 26
abbrev s_Ltruth : Stmt := top 27
abbrev s_every : Stmt := top 28
abbrev s_Lalike : Stmt := top 29
abbrev s_second : Stmt := top 30
abbrev s_codes : Stmt := top 31
abbrev s_tables_told : Stmt := top 32
abbrev s_Lescape : Stmt := top 33
abbrev s_law : Stmt := top 34
theorem sc_wall : FnScope ["k"] ["k"] (defScope s_wall) := ⟨rfl, rfl, rfl, by decide +kernel, rfl, by decide +kernel, by decide +kernel⟩
theorem sc_ZeroDivisor_init : FnScope ["self"] ["self"] (defScope s_ZeroDivisor_init) := ⟨rfl, rfl, rfl, by decide +kernel, rfl, by decide +kernel, by decide +kernel⟩
theorem sc_Truth_init : FnScope ["self", "rank"] ["self", "rank"] (defScope s_Truth_init) := ⟨rfl, rfl, rfl, by decide +kernel, rfl, by decide +kernel, by decide +kernel⟩
theorem sc_Truth_of : FnScope ["value"] ["value"] (defScope s_Truth_of) := ⟨rfl, rfl, rfl, by decide +kernel, rfl, by decide +kernel, by decide +kernel⟩
theorem sc_Truth_from_word : FnScope ["word"] ["word"] (defScope s_Truth_from_word) := ⟨rfl, rfl, rfl, by decide +kernel, rfl, by decide +kernel, by decide +kernel⟩
theorem sc_Truth_value : FnScope ["self"] ["self"] (defScope s_Truth_value) := ⟨rfl, rfl, rfl, by decide +kernel, rfl, by decide +kernel, by decide +kernel⟩
theorem sc_Truth_word : FnScope ["self"] ["self"] (defScope s_Truth_word) := ⟨rfl, rfl, rfl, by decide +kernel, rfl, by decide +kernel, by decide +kernel⟩
theorem sc_Truth_and : FnScope ["self", "other"] ["self", "other"] (defScope s_Truth_and) := ⟨rfl, rfl, rfl, by decide +kernel, rfl, by decide +kernel, by decide +kernel⟩
theorem sc_Truth_or : FnScope ["self", "other"] ["self", "other"] (defScope s_Truth_or) := ⟨rfl, rfl, rfl, by decide +kernel, rfl, by decide +kernel, by decide +kernel⟩
theorem sc_Truth_xor : FnScope ["self", "other"] ["self", "other"] (defScope s_Truth_xor) := ⟨rfl, rfl, rfl, by decide +kernel, rfl, by decide +kernel, by decide +kernel⟩
theorem sc_Truth_invert : FnScope ["self"] ["self"] (defScope s_Truth_invert) := ⟨rfl, rfl, rfl, by decide +kernel, rfl, by decide +kernel, by decide +kernel⟩
theorem sc_Truth_eq : FnScope ["self", "other"] ["self", "other"] (defScope s_Truth_eq) := ⟨rfl, rfl, rfl, by decide +kernel, rfl, by decide +kernel, by decide +kernel⟩
theorem sc_Truth_ne : FnScope ["self", "other"] ["self", "other"] (defScope s_Truth_ne) := ⟨rfl, rfl, rfl, by decide +kernel, rfl, by decide +kernel, by decide +kernel⟩
theorem sc_Truth_lt : FnScope ["self", "other"] ["self", "other"] (defScope s_Truth_lt) := ⟨rfl, rfl, rfl, by decide +kernel, rfl, by decide +kernel, by decide +kernel⟩
theorem sc_Truth_le : FnScope ["self", "other"] ["self", "other"] (defScope s_Truth_le) := ⟨rfl, rfl, rfl, by decide +kernel, rfl, by decide +kernel, by decide +kernel⟩
theorem sc_Truth_bool : FnScope ["self"] ["self"] (defScope s_Truth_bool) := ⟨rfl, rfl, rfl, by decide +kernel, rfl, by decide +kernel, by decide +kernel⟩
theorem sc_truth : FnScope ["condition", "row", "word", "left"] ["condition", "row"] (defScope s_truth) := ⟨rfl, rfl, rfl, by decide +kernel, rfl, by decide +kernel, by decide +kernel⟩
theorem sc_simple_value : FnScope ["condition", "row", "word", "known"] ["condition", "row"] (defScope s_simple_value) := ⟨rfl, rfl, rfl, by decide +kernel, rfl, by decide +kernel, by decide +kernel⟩
theorem sc_quotient_value : FnScope ["dividend", "divisor", "value"] ["dividend", "divisor", "value"] (defScope s_quotient_value) := ⟨rfl, rfl, rfl, by decide +kernel, rfl, by decide +kernel, by decide +kernel⟩
theorem sc_all_rows : GScope ["first", "second", "third"] [] (defScope s_all_rows) := ⟨rfl, rfl, rfl, by decide +kernel, rfl, by decide +kernel, by decide +kernel⟩
theorem sc_outcome : FnScope ["condition", "row"] ["condition", "row"] (defScope s_outcome) := ⟨rfl, rfl, rfl, by decide +kernel, rfl, by decide +kernel, by decide +kernel⟩
theorem sc_outcomes : FnScope ["condition", "row"] ["condition"] (defScope s_outcomes) := ⟨rfl, rfl, rfl, by decide +kernel, rfl, by decide +kernel, by decide +kernel⟩
theorem sc_true_rows : FnScope ["condition", "row"] ["condition"] (defScope s_true_rows) := ⟨rfl, rfl, rfl, by decide +kernel, rfl, by decide +kernel, by decide +kernel⟩
theorem sc_live_rows : FnScope ["condition", "row"] ["condition"] (defScope s_live_rows) := ⟨rfl, rfl, rfl, by decide +kernel, rfl, by decide +kernel, by decide +kernel⟩
theorem sc_escape : FnScope ["condition", "other", "row"] ["condition", "other"] (defScope s_escape) := ⟨rfl, rfl, rfl, by decide +kernel, rfl, by decide +kernel, by decide +kernel⟩
theorem sc_alike : FnScope ["condition", "other"] ["condition", "other"] (defScope s_alike) := ⟨rfl, rfl, rfl, by decide +kernel, rfl, by decide +kernel, by decide +kernel⟩
theorem sc_box : FnScope ["_law_script"] ["_law_script"] (defScope s_box) := ⟨rfl, rfl, rfl, by decide +kernel, rfl, by decide +kernel, by decide +kernel⟩
theorem sc_draw : FnScope ["_law_box_here", "_law_size", "_law_drawn", "_law_mixed"] ["_law_box_here", "_law_size"] (defScope s_draw) := ⟨rfl, rfl, rfl, by decide +kernel, rfl, by decide +kernel, by decide +kernel⟩
theorem sc_condition : FnScope ["_law_box_here", "_law_levels", "_law_errs", "_law_word", "_law_column"] ["_law_box_here", "_law_levels", "_law_errs"] (defScope s_condition) := ⟨rfl, rfl, rfl, by decide +kernel, rfl, by decide +kernel, by decide +kernel⟩
theorem sc_Ltruth : FnScope ["_law_condition_here", "_law_row", "_law_word", "_law_part", "_law_stop", "_law_left", "_law_right", "_law_cell", "_law_lower"] ["_law_condition_here", "_law_row"] (defScope s_Ltruth) := ⟨rfl, rfl, rfl, by decide +kernel, rfl, by decide +kernel, by decide +kernel⟩
theorem sc_every : FnScope ["_law_rows", "_law_first", "_law_second_here", "_law_third"] [] (defScope s_every) := ⟨rfl, rfl, rfl, by decide +kernel, rfl, by decide +kernel, by decide +kernel⟩
theorem sc_Lalike : FnScope ["_law_actual", "_law_due", "_law_k"] ["_law_actual", "_law_due"] (defScope s_Lalike) := ⟨rfl, rfl, rfl, by decide +kernel, rfl, by decide +kernel, by decide +kernel⟩
theorem sc_second : FnScope ["_law_box_here", "_law_first", "_law_kind", "_law_drawn"] ["_law_box_here", "_law_first"] (defScope s_second) := ⟨rfl, rfl, rfl, by decide +kernel, rfl, by decide +kernel, by decide +kernel⟩
theorem sc_codes : FnScope ["_law_condition_here", "_law_row"] ["_law_condition_here"] (defScope s_codes) := ⟨rfl, rfl, rfl, by decide +kernel, rfl, by decide +kernel, by decide +kernel⟩
theorem sc_tables_told : FnScope ["_law_condition_here", "_law_codes_here", "_law_at", "_law_every_here", "_law_words", "_law_code", "_law_k"] ["_law_condition_here", "_law_codes_here", "_law_at"] (defScope s_tables_told) := ⟨rfl, rfl, rfl, by decide +kernel, rfl, by decide +kernel, by decide +kernel⟩
theorem sc_Lescape : FnScope ["_law_codes_here", "_law_others", "_law_every_here", "_law_k"] ["_law_codes_here", "_law_others"] (defScope s_Lescape) := ⟨rfl, rfl, rfl, by decide +kernel, rfl, by decide +kernel, by decide +kernel⟩
theorem sc_law : FnScope ["_law_script", "_law_box_here", "_law_first", "_law_second_here", "_law_at", "_law_codes_here", "_law_others", "_law_live"] ["_law_script"] (defScope s_law) := ⟨rfl, rfl, rfl, by decide +kernel, rfl, by decide +kernel, by decide +kernel⟩
/-! ### the facts -/
def d_wall : He5.DefA := ⟨fun K => ga K "_wall", "_wall", "_wall", defArgs s_wall, defBody s_wall, defScope s_wall, [], []⟩
def d_ZeroDivisor_init : He5.DefA := ⟨fun K => Hk.mt K "ZeroDivisor" "__init__", "__init__", "ZeroDivisor.__init__", defArgs s_ZeroDivisor_init, defBody s_ZeroDivisor_init, defScope s_ZeroDivisor_init, [], []⟩
def d_Truth_init : He5.DefA := ⟨fun K => Hk.mt K "Truth" "__init__", "__init__", "Truth.__init__", defArgs s_Truth_init, defBody s_Truth_init, defScope s_Truth_init, [], []⟩
def d_Truth_of : He5.DefA := ⟨fun K => Hk.sg K "Truth" "of", "of", "Truth.of", defArgs s_Truth_of, defBody s_Truth_of, defScope s_Truth_of, [], []⟩
def d_Truth_from_word : He5.DefA := ⟨fun K => Hk.sg K "Truth" "from_word", "from_word", "Truth.from_word", defArgs s_Truth_from_word, defBody s_Truth_from_word, defScope s_Truth_from_word, [], []⟩
def d_Truth_value : He5.DefA := ⟨fun K => Hk.pg K "Truth" "value", "value", "Truth.value", defArgs s_Truth_value, defBody s_Truth_value, defScope s_Truth_value, [], []⟩
def d_Truth_word : He5.DefA := ⟨fun K => Hk.pg K "Truth" "word", "word", "Truth.word", defArgs s_Truth_word, defBody s_Truth_word, defScope s_Truth_word, [], []⟩
def d_Truth_and : He5.DefA := ⟨fun K => Hk.mt K "Truth" "__and__", "__and__", "Truth.__and__", defArgs s_Truth_and, defBody s_Truth_and, defScope s_Truth_and, [], []⟩
def d_Truth_or : He5.DefA := ⟨fun K => Hk.mt K "Truth" "__or__", "__or__", "Truth.__or__", defArgs s_Truth_or, defBody s_Truth_or, defScope s_Truth_or, [], []⟩
def d_Truth_xor : He5.DefA := ⟨fun K => Hk.mt K "Truth" "__xor__", "__xor__", "Truth.__xor__", defArgs s_Truth_xor, defBody s_Truth_xor, defScope s_Truth_xor, [], []⟩
def d_Truth_invert : He5.DefA := ⟨fun K => Hk.mt K "Truth" "__invert__", "__invert__", "Truth.__invert__", defArgs s_Truth_invert, defBody s_Truth_invert, defScope s_Truth_invert, [], []⟩
def d_Truth_eq : He5.DefA := ⟨fun K => Hk.mt K "Truth" "__eq__", "__eq__", "Truth.__eq__", defArgs s_Truth_eq, defBody s_Truth_eq, defScope s_Truth_eq, [], []⟩
def d_Truth_ne : He5.DefA := ⟨fun K => Hk.mt K "Truth" "__ne__", "__ne__", "Truth.__ne__", defArgs s_Truth_ne, defBody s_Truth_ne, defScope s_Truth_ne, [], []⟩
def d_Truth_lt : He5.DefA := ⟨fun K => Hk.mt K "Truth" "__lt__", "__lt__", "Truth.__lt__", defArgs s_Truth_lt, defBody s_Truth_lt, defScope s_Truth_lt, [], []⟩
def d_Truth_le : He5.DefA := ⟨fun K => Hk.mt K "Truth" "__le__", "__le__", "Truth.__le__", defArgs s_Truth_le, defBody s_Truth_le, defScope s_Truth_le, [], []⟩
def d_Truth_bool : He5.DefA := ⟨fun K => Hk.mt K "Truth" "__bool__", "__bool__", "Truth.__bool__", defArgs s_Truth_bool, defBody s_Truth_bool, defScope s_Truth_bool, [], []⟩
def d_truth : He5.DefA := ⟨fun K => ga K "truth", "truth", "truth", defArgs s_truth, defBody s_truth, defScope s_truth, [], []⟩
def d_simple_value : He5.DefA := ⟨fun K => ga K "_simple_value", "_simple_value", "_simple_value", defArgs s_simple_value, defBody s_simple_value, defScope s_simple_value, [], []⟩
def d_quotient_value : He5.DefA := ⟨fun K => ga K "_quotient_value", "_quotient_value", "_quotient_value", defArgs s_quotient_value, defBody s_quotient_value, defScope s_quotient_value, [], []⟩
def d_all_rows : He5.DefA := ⟨fun K => ga K "all_rows", "all_rows", "all_rows", defArgs s_all_rows, defBody s_all_rows, defScope s_all_rows, [], []⟩
def d_outcome : He5.DefA := ⟨fun K => ga K "outcome", "outcome", "outcome", defArgs s_outcome, defBody s_outcome, defScope s_outcome, [], []⟩
def d_outcomes : He5.DefA := ⟨fun K => ga K "outcomes", "outcomes", "outcomes", defArgs s_outcomes, defBody s_outcomes, defScope s_outcomes, [], []⟩
def d_true_rows : He5.DefA := ⟨fun K => ga K "true_rows", "true_rows", "true_rows", defArgs s_true_rows, defBody s_true_rows, defScope s_true_rows, [], []⟩
def d_live_rows : He5.DefA := ⟨fun K => ga K "live_rows", "live_rows", "live_rows", defArgs s_live_rows, defBody s_live_rows, defScope s_live_rows, [], []⟩
def d_escape : He5.DefA := ⟨fun K => ga K "escape", "escape", "escape", defArgs s_escape, defBody s_escape, defScope s_escape, [], []⟩
def d_alike : He5.DefA := ⟨fun K => ga K "alike", "alike", "alike", defArgs s_alike, defBody s_alike, defScope s_alike, [], []⟩
def d_box : He5.DefA := ⟨fun K => ga K "_law_box", "_law_box", "_law_box", defArgs s_box, defBody s_box, defScope s_box, [], []⟩
def d_draw : He5.DefA := ⟨fun K => ga K "_law_draw", "_law_draw", "_law_draw", defArgs s_draw, defBody s_draw, defScope s_draw, [], []⟩
def d_condition : He5.DefA := ⟨fun K => ga K "_law_condition", "_law_condition", "_law_condition", defArgs s_condition, defBody s_condition, defScope s_condition, [], []⟩
def d_Ltruth : He5.DefA := ⟨fun K => ga K "_law_truth", "_law_truth", "_law_truth", defArgs s_Ltruth, defBody s_Ltruth, defScope s_Ltruth, [], []⟩
def d_every : He5.DefA := ⟨fun K => ga K "_law_every", "_law_every", "_law_every", defArgs s_every, defBody s_every, defScope s_every, [], []⟩
def d_Lalike : He5.DefA := ⟨fun K => ga K "_law_alike", "_law_alike", "_law_alike", defArgs s_Lalike, defBody s_Lalike, defScope s_Lalike, [], []⟩
def d_second : He5.DefA := ⟨fun K => ga K "_law_second", "_law_second", "_law_second", defArgs s_second, defBody s_second, defScope s_second, [], []⟩
def d_codes : He5.DefA := ⟨fun K => ga K "_law_codes", "_law_codes", "_law_codes", defArgs s_codes, defBody s_codes, defScope s_codes, [], []⟩
def d_tables_told : He5.DefA := ⟨fun K => ga K "_law_tables_told", "_law_tables_told", "_law_tables_told", defArgs s_tables_told, defBody s_tables_told, defScope s_tables_told, [], []⟩
def d_Lescape : He5.DefA := ⟨fun K => ga K "_law_escape", "_law_escape", "_law_escape", defArgs s_Lescape, defBody s_Lescape, defScope s_Lescape, [], []⟩
def d_law : He5.DefA := ⟨fun K => ga K "law", "law", "law", defArgs s_law, defBody s_law, defScope s_law, [], []⟩
def fn : List He5.DefA := [d_wall, d_ZeroDivisor_init, d_Truth_init, d_Truth_of, d_Truth_from_word, d_Truth_value, d_Truth_word, d_Truth_and, d_Truth_or, d_Truth_xor, d_Truth_invert, d_Truth_eq, d_Truth_ne, d_Truth_lt, d_Truth_le, d_Truth_bool, d_truth, d_simple_value, d_quotient_value, d_all_rows, d_outcome, d_outcomes, d_true_rows, d_live_rows, d_escape, d_alike, d_box, d_draw, d_condition, d_Ltruth, d_every, d_Lalike, d_second, d_codes, d_tables_told, d_Lescape, d_law]
def exl : List (PySem.W.Frag → Bool) := [
  fun K => (He.Fa.free "isinstance").ok K,
  fun K => (He.Fa.free "NotImplemented").ok K,
  fun K => (He.Fa.free "bool").ok K,
  fun K => (He.Fa.free "tuple").ok K,
  fun K => (He.Fa.free "list").ok K,
  fun K => (He.Fa.free "len").ok K,
  fun K => (He.Fa.free "abs").ok K,
  fun K => (He.Fa.free "int").ok K,
  fun K => (He.Fa.free "str").ok K,
  fun K => (He.Fa.free "range").ok K,
  fun K => (He.Fa.glo "_wall").ok K,
  fun K => (He.Fa.glo "BookError").ok K,
  fun K => (He.Fa.glo "Refusal").ok K,
  fun K => (He.Fa.glo "ZeroDivisor").ok K,
  fun K => (He.Fa.glo "WORDS").ok K,
  fun K => Hk.tupO K "WORDS",
  fun K => He.tupB K "WORDS" [.str "false", .str "unknown", .str "true"],
  fun K => (He.Fa.glo "MEANINGS").ok K,
  fun K => Hk.tupO K "MEANINGS",
  fun K => He.tupB K "MEANINGS" [.bl false, .non, .bl true],
  fun K => (He.Fa.glo "Truth").ok K,
  fun K => (He.Fa.glo "truth").ok K,
  fun K => (He.Fa.glo "_simple_value").ok K,
  fun K => (He.Fa.glo "_quotient_value").ok K,
  fun K => (He.Fa.glo "VALUES").ok K,
  fun K => Hk.tupO K "VALUES",
  fun K => He.tupB K "VALUES" [.non, .int 0, .int 1, .int 2],
  fun K => (He.Fa.glo "all_rows").ok K,
  fun K => (He.Fa.glo "outcome").ok K,
  fun K => (He.Fa.glo "outcomes").ok K,
  fun K => (He.Fa.glo "true_rows").ok K,
  fun K => (He.Fa.glo "live_rows").ok K,
  fun K => (He.Fa.glo "escape").ok K,
  fun K => (He.Fa.glo "alike").ok K,
  fun K => (He.Fa.glo "_law_box").ok K,
  fun K => (He.Fa.glo "_law_draw").ok K,
  fun K => (He.Fa.glo "_law_condition").ok K,
  fun K => (He.Fa.glo "_law_truth").ok K,
  fun K => (He.Fa.glo "_law_every").ok K,
  fun K => (He.Fa.glo "_law_alike").ok K,
  fun K => (He.Fa.glo "_law_second").ok K,
  fun K => (He.Fa.glo "_law_codes").ok K,
  fun K => (He.Fa.glo "_law_tables_told").ok K,
  fun K => (He.Fa.glo "_law_escape").ok K,
  fun K => (He.Fa.glo "law").ok K,
  fun K => Hk.kitB K "BookError" "BookError" true,
  fun K => (He.Fa.exm "BookError" "BookError" true).ok K,
  fun K => Hk.kitB K "BookError" "Refusal" false,
  fun K => (He.Fa.exm "BookError" "Refusal" false).ok K,
  fun K => Hk.kitB K "BookError" "ZeroDivisor" false,
  fun K => (He.Fa.exm "BookError" "ZeroDivisor" false).ok K,
  fun K => Hk.excCB K "BookError",
  fun K => Hk.excB K "BookError" [.type "ValueError", .type "Exception", .type "BaseException", .type "object"],
  fun K => Hk.kitB K "Refusal" "BookError" true,
  fun K => (He.Fa.exm "Refusal" "BookError" true).ok K,
  fun K => Hk.kitB K "Refusal" "Refusal" true,
  fun K => (He.Fa.exm "Refusal" "Refusal" true).ok K,
  fun K => Hk.kitB K "Refusal" "ZeroDivisor" false,
  fun K => (He.Fa.exm "Refusal" "ZeroDivisor" false).ok K,
  fun K => Hk.excCB K "Refusal",
  fun K => Hk.excB K "Refusal" [.type "ValueError", .type "Exception", .type "BaseException", .type "object"],
  fun K => Hk.kitB K "ZeroDivisor" "BookError" true,
  fun K => (He.Fa.exm "ZeroDivisor" "BookError" true).ok K,
  fun K => Hk.kitB K "ZeroDivisor" "Refusal" true,
  fun K => (He.Fa.exm "ZeroDivisor" "Refusal" true).ok K,
  fun K => Hk.kitB K "ZeroDivisor" "ZeroDivisor" true,
  fun K => (He.Fa.exm "ZeroDivisor" "ZeroDivisor" true).ok K,
  fun K => Hk.excCB K "ZeroDivisor",
  fun K => Hk.oexB K "ZeroDivisor",
  fun K => Hk.xinB K "ZeroDivisor",
  fun K => xfB K (ga K "ZeroDivisor"),
  fun K => Hk.noxB K "ZeroDivisor" "told",
  fun K => (He.Fa.cls "Truth").ok K,
  fun K => Hk.isiB K "Truth",
  fun K => Hk.kitB K "Truth" "Truth" true,
  fun K => (He.Fa.mkr "Truth").ok K,
  fun K => (He.Fa.noat "Truth" "rank").ok K,
  fun K => Hk.readB K "Truth",
  fun K => Hk.selfB K "Truth",
  fun K => Hk.statB K "Truth" "of",
  fun K => Hk.statB K "Truth" "from_word",
  fun K => Hk.propB K "Truth" "value",
  fun K => Hk.propB K "Truth" "word",
  fun K => (He.Fa.meth "Truth" "__and__").ok K,
  fun K => (He.Fa.meth "Truth" "__or__").ok K,
  fun K => (He.Fa.meth "Truth" "__xor__").ok K,
  fun K => (He.Fa.meth "Truth" "__invert__").ok K,
  fun K => (He.Fa.meth "Truth" "__eq__").ok K,
  fun K => (He.Fa.meth "Truth" "__ne__").ok K,
  fun K => (He.Fa.meth "Truth" "__lt__").ok K,
  fun K => (He.Fa.meth "Truth" "__le__").ok K,
  fun K => (He.Fa.meth "Truth" "__bool__").ok K,
  fun K => Hk.cvalB K "Truth" "COUNT" (.int 3),
  fun K => Fu.ktB K (.ktu [(.str "false"), (.str "unknown"), (.str "true")]) (.ref (ga K "WORDS")),
  fun K => Fu.ktB K (.ktu [(.bl false), .non, (.bl true)]) (.ref (ga K "MEANINGS")),
  fun K => Fu.ktB K (.ktu [.non, (.int 0), (.int 1), (.int 2)]) (.ref (ga K "VALUES"))]
def ex (K : PySem.W.Frag) : Bool := exl.all fun f => f K
structure Txt (K : PySem.W.Frag) (mg : Str → Option Value) : Prop where
  says : Hk.SaysE ex fn K
  ns : Hk.NsAll K mg
section
variable {P : Program} {w : World} {K : PySem.W.Frag} {mg : Str → Option Value} {base : Heap}
theorem Txt.e (T : Txt K mg) (i : Nat) {f : PySem.W.Frag → Bool} (h : exl[i]? = some f) : f K = true := List.all_eq_true.mp (show (exl.all fun f => f K) = true from T.says.more) f (List.mem_of_getElem? h)
theorem Txt.d (T : Txt K mg) (i : Nat) {d : He5.DefA} (h : fn[i]? = some d) : ∃ fd, FunD K d.name d.qual d.params d.body d.scope (d.dvs K) (d.kws K) (d.at_ K) fd := T.says.def_ i h
theorem Txt.z_isinstance (T : Txt K mg) : mg "isinstance" = none := Hk.free_ok T.ns (T.e 0 (f := fun K => (He.Fa.free "isinstance").ok K) rfl)
theorem Txt.z_NotImplemented (T : Txt K mg) : mg "NotImplemented" = none := Hk.free_ok T.ns (T.e 1 (f := fun K => (He.Fa.free "NotImplemented").ok K) rfl)
theorem Txt.z_bool (T : Txt K mg) : mg "bool" = none := Hk.free_ok T.ns (T.e 2 (f := fun K => (He.Fa.free "bool").ok K) rfl)
theorem Txt.z_tuple (T : Txt K mg) : mg "tuple" = none := Hk.free_ok T.ns (T.e 3 (f := fun K => (He.Fa.free "tuple").ok K) rfl)
theorem Txt.z_list (T : Txt K mg) : mg "list" = none := Hk.free_ok T.ns (T.e 4 (f := fun K => (He.Fa.free "list").ok K) rfl)
theorem Txt.z_len (T : Txt K mg) : mg "len" = none := Hk.free_ok T.ns (T.e 5 (f := fun K => (He.Fa.free "len").ok K) rfl)
theorem Txt.z_abs (T : Txt K mg) : mg "abs" = none := Hk.free_ok T.ns (T.e 6 (f := fun K => (He.Fa.free "abs").ok K) rfl)
theorem Txt.z_int (T : Txt K mg) : mg "int" = none := Hk.free_ok T.ns (T.e 7 (f := fun K => (He.Fa.free "int").ok K) rfl)
theorem Txt.z_str (T : Txt K mg) : mg "str" = none := Hk.free_ok T.ns (T.e 8 (f := fun K => (He.Fa.free "str").ok K) rfl)
theorem Txt.z_range (T : Txt K mg) : mg "range" = none := Hk.free_ok T.ns (T.e 9 (f := fun K => (He.Fa.free "range").ok K) rfl)
theorem Txt.g__wall (T : Txt K mg) : mg "_wall" = some (.ref (ga K "_wall")) := Hk.glo_ok T.ns (T.e 10 (f := fun K => (He.Fa.glo "_wall").ok K) rfl)
theorem Txt.g_BookError (T : Txt K mg) : mg "BookError" = some (.ref (ga K "BookError")) := Hk.glo_ok T.ns (T.e 11 (f := fun K => (He.Fa.glo "BookError").ok K) rfl)
theorem Txt.g_Refusal (T : Txt K mg) : mg "Refusal" = some (.ref (ga K "Refusal")) := Hk.glo_ok T.ns (T.e 12 (f := fun K => (He.Fa.glo "Refusal").ok K) rfl)
theorem Txt.g_ZeroDivisor (T : Txt K mg) : mg "ZeroDivisor" = some (.ref (ga K "ZeroDivisor")) := Hk.glo_ok T.ns (T.e 13 (f := fun K => (He.Fa.glo "ZeroDivisor").ok K) rfl)
theorem Txt.g_WORDS (T : Txt K mg) : mg "WORDS" = some (.ref (ga K "WORDS")) := Hk.glo_ok T.ns (T.e 14 (f := fun K => (He.Fa.glo "WORDS").ok K) rfl)
theorem Txt.o_WORDS (T : Txt K mg) : ∀ H, tyV K "tuple" (.ref (ga K "WORDS")) H := Hk.tupO_ok (T.e 15 (f := fun K => Hk.tupO K "WORDS") rfl)
theorem Txt.t_WORDS (T : Txt K mg) : ∀ H, SqT K H (ga K "WORDS") [.str "false", .str "unknown", .str "true"] := fun H => He.tupB_ok (T.e 16 (f := fun K => He.tupB K "WORDS" [.str "false", .str "unknown", .str "true"]) rfl) H
theorem Txt.g_MEANINGS (T : Txt K mg) : mg "MEANINGS" = some (.ref (ga K "MEANINGS")) := Hk.glo_ok T.ns (T.e 17 (f := fun K => (He.Fa.glo "MEANINGS").ok K) rfl)
theorem Txt.o_MEANINGS (T : Txt K mg) : ∀ H, tyV K "tuple" (.ref (ga K "MEANINGS")) H := Hk.tupO_ok (T.e 18 (f := fun K => Hk.tupO K "MEANINGS") rfl)
theorem Txt.t_MEANINGS (T : Txt K mg) : ∀ H, SqT K H (ga K "MEANINGS") [.bl false, .non, .bl true] := fun H => He.tupB_ok (T.e 19 (f := fun K => He.tupB K "MEANINGS" [.bl false, .non, .bl true]) rfl) H
theorem Txt.g_Truth (T : Txt K mg) : mg "Truth" = some (.ref (ga K "Truth")) := Hk.glo_ok T.ns (T.e 20 (f := fun K => (He.Fa.glo "Truth").ok K) rfl)
theorem Txt.g_truth (T : Txt K mg) : mg "truth" = some (.ref (ga K "truth")) := Hk.glo_ok T.ns (T.e 21 (f := fun K => (He.Fa.glo "truth").ok K) rfl)
theorem Txt.g__simple_value (T : Txt K mg) : mg "_simple_value" = some (.ref (ga K "_simple_value")) := Hk.glo_ok T.ns (T.e 22 (f := fun K => (He.Fa.glo "_simple_value").ok K) rfl)
theorem Txt.g__quotient_value (T : Txt K mg) : mg "_quotient_value" = some (.ref (ga K "_quotient_value")) := Hk.glo_ok T.ns (T.e 23 (f := fun K => (He.Fa.glo "_quotient_value").ok K) rfl)
theorem Txt.g_VALUES (T : Txt K mg) : mg "VALUES" = some (.ref (ga K "VALUES")) := Hk.glo_ok T.ns (T.e 24 (f := fun K => (He.Fa.glo "VALUES").ok K) rfl)
theorem Txt.o_VALUES (T : Txt K mg) : ∀ H, tyV K "tuple" (.ref (ga K "VALUES")) H := Hk.tupO_ok (T.e 25 (f := fun K => Hk.tupO K "VALUES") rfl)
theorem Txt.t_VALUES (T : Txt K mg) : ∀ H, SqT K H (ga K "VALUES") [.non, .int 0, .int 1, .int 2] := fun H => He.tupB_ok (T.e 26 (f := fun K => He.tupB K "VALUES" [.non, .int 0, .int 1, .int 2]) rfl) H
theorem Txt.g_all_rows (T : Txt K mg) : mg "all_rows" = some (.ref (ga K "all_rows")) := Hk.glo_ok T.ns (T.e 27 (f := fun K => (He.Fa.glo "all_rows").ok K) rfl)
theorem Txt.g_outcome (T : Txt K mg) : mg "outcome" = some (.ref (ga K "outcome")) := Hk.glo_ok T.ns (T.e 28 (f := fun K => (He.Fa.glo "outcome").ok K) rfl)
theorem Txt.g_outcomes (T : Txt K mg) : mg "outcomes" = some (.ref (ga K "outcomes")) := Hk.glo_ok T.ns (T.e 29 (f := fun K => (He.Fa.glo "outcomes").ok K) rfl)
theorem Txt.g_true_rows (T : Txt K mg) : mg "true_rows" = some (.ref (ga K "true_rows")) := Hk.glo_ok T.ns (T.e 30 (f := fun K => (He.Fa.glo "true_rows").ok K) rfl)
theorem Txt.g_live_rows (T : Txt K mg) : mg "live_rows" = some (.ref (ga K "live_rows")) := Hk.glo_ok T.ns (T.e 31 (f := fun K => (He.Fa.glo "live_rows").ok K) rfl)
theorem Txt.g_escape (T : Txt K mg) : mg "escape" = some (.ref (ga K "escape")) := Hk.glo_ok T.ns (T.e 32 (f := fun K => (He.Fa.glo "escape").ok K) rfl)
theorem Txt.g_alike (T : Txt K mg) : mg "alike" = some (.ref (ga K "alike")) := Hk.glo_ok T.ns (T.e 33 (f := fun K => (He.Fa.glo "alike").ok K) rfl)
theorem Txt.g__law_box (T : Txt K mg) : mg "_law_box" = some (.ref (ga K "_law_box")) := Hk.glo_ok T.ns (T.e 34 (f := fun K => (He.Fa.glo "_law_box").ok K) rfl)
theorem Txt.g__law_draw (T : Txt K mg) : mg "_law_draw" = some (.ref (ga K "_law_draw")) := Hk.glo_ok T.ns (T.e 35 (f := fun K => (He.Fa.glo "_law_draw").ok K) rfl)
theorem Txt.g__law_condition (T : Txt K mg) : mg "_law_condition" = some (.ref (ga K "_law_condition")) := Hk.glo_ok T.ns (T.e 36 (f := fun K => (He.Fa.glo "_law_condition").ok K) rfl)
theorem Txt.g__law_truth (T : Txt K mg) : mg "_law_truth" = some (.ref (ga K "_law_truth")) := Hk.glo_ok T.ns (T.e 37 (f := fun K => (He.Fa.glo "_law_truth").ok K) rfl)
theorem Txt.g__law_every (T : Txt K mg) : mg "_law_every" = some (.ref (ga K "_law_every")) := Hk.glo_ok T.ns (T.e 38 (f := fun K => (He.Fa.glo "_law_every").ok K) rfl)
theorem Txt.g__law_alike (T : Txt K mg) : mg "_law_alike" = some (.ref (ga K "_law_alike")) := Hk.glo_ok T.ns (T.e 39 (f := fun K => (He.Fa.glo "_law_alike").ok K) rfl)
theorem Txt.g__law_second (T : Txt K mg) : mg "_law_second" = some (.ref (ga K "_law_second")) := Hk.glo_ok T.ns (T.e 40 (f := fun K => (He.Fa.glo "_law_second").ok K) rfl)
theorem Txt.g__law_codes (T : Txt K mg) : mg "_law_codes" = some (.ref (ga K "_law_codes")) := Hk.glo_ok T.ns (T.e 41 (f := fun K => (He.Fa.glo "_law_codes").ok K) rfl)
theorem Txt.g__law_tables_told (T : Txt K mg) : mg "_law_tables_told" = some (.ref (ga K "_law_tables_told")) := Hk.glo_ok T.ns (T.e 42 (f := fun K => (He.Fa.glo "_law_tables_told").ok K) rfl)
theorem Txt.g__law_escape (T : Txt K mg) : mg "_law_escape" = some (.ref (ga K "_law_escape")) := Hk.glo_ok T.ns (T.e 43 (f := fun K => (He.Fa.glo "_law_escape").ok K) rfl)
theorem Txt.g_law (T : Txt K mg) : mg "law" = some (.ref (ga K "law")) := Hk.glo_ok T.ns (T.e 44 (f := fun K => (He.Fa.glo "law").ok K) rfl)
theorem Txt.kt_BookError_BookError (T : Txt K mg) : PySem.W.kitOne K (.ref (ga K "BookError")) (.ref (ga K "BookError")) = some true := of_decide_eq_true (T.e 45 (f := fun K => Hk.kitB K "BookError" "BookError" true) rfl)
theorem Txt.k_BookError_BookError (T : Txt K mg) : PySem.W.exmOne K (.ref (ga K "BookError")) (.ref (ga K "BookError")) = some true := He.exm_ok (T.e 46 (f := fun K => (He.Fa.exm "BookError" "BookError" true).ok K) rfl)
theorem Txt.kt_BookError_Refusal (T : Txt K mg) : PySem.W.kitOne K (.ref (ga K "BookError")) (.ref (ga K "Refusal")) = some false := of_decide_eq_true (T.e 47 (f := fun K => Hk.kitB K "BookError" "Refusal" false) rfl)
theorem Txt.k_BookError_Refusal (T : Txt K mg) : PySem.W.exmOne K (.ref (ga K "BookError")) (.ref (ga K "Refusal")) = some false := He.exm_ok (T.e 48 (f := fun K => (He.Fa.exm "BookError" "Refusal" false).ok K) rfl)
theorem Txt.kt_BookError_ZeroDivisor (T : Txt K mg) : PySem.W.kitOne K (.ref (ga K "BookError")) (.ref (ga K "ZeroDivisor")) = some false := of_decide_eq_true (T.e 49 (f := fun K => Hk.kitB K "BookError" "ZeroDivisor" false) rfl)
theorem Txt.k_BookError_ZeroDivisor (T : Txt K mg) : PySem.W.exmOne K (.ref (ga K "BookError")) (.ref (ga K "ZeroDivisor")) = some false := He.exm_ok (T.e 50 (f := fun K => (He.Fa.exm "BookError" "ZeroDivisor" false).ok K) rfl)
theorem Txt.ec_BookError (T : Txt K mg) : ExcC K (ga K "BookError") := Hk.excC_ok (T.e 51 (f := fun K => Hk.excCB K "BookError") rfl)
theorem Txt.x_BookError (T : Txt K mg) : Hk.ExcF K "BookError" [.type "ValueError", .type "Exception", .type "BaseException", .type "object"] := Hk.exc_ok (T.e 52 (f := fun K => Hk.excB K "BookError" [.type "ValueError", .type "Exception", .type "BaseException", .type "object"]) rfl)
theorem Txt.kt_Refusal_BookError (T : Txt K mg) : PySem.W.kitOne K (.ref (ga K "Refusal")) (.ref (ga K "BookError")) = some true := of_decide_eq_true (T.e 53 (f := fun K => Hk.kitB K "Refusal" "BookError" true) rfl)
theorem Txt.k_Refusal_BookError (T : Txt K mg) : PySem.W.exmOne K (.ref (ga K "Refusal")) (.ref (ga K "BookError")) = some true := He.exm_ok (T.e 54 (f := fun K => (He.Fa.exm "Refusal" "BookError" true).ok K) rfl)
theorem Txt.kt_Refusal_Refusal (T : Txt K mg) : PySem.W.kitOne K (.ref (ga K "Refusal")) (.ref (ga K "Refusal")) = some true := of_decide_eq_true (T.e 55 (f := fun K => Hk.kitB K "Refusal" "Refusal" true) rfl)
theorem Txt.k_Refusal_Refusal (T : Txt K mg) : PySem.W.exmOne K (.ref (ga K "Refusal")) (.ref (ga K "Refusal")) = some true := He.exm_ok (T.e 56 (f := fun K => (He.Fa.exm "Refusal" "Refusal" true).ok K) rfl)
theorem Txt.kt_Refusal_ZeroDivisor (T : Txt K mg) : PySem.W.kitOne K (.ref (ga K "Refusal")) (.ref (ga K "ZeroDivisor")) = some false := of_decide_eq_true (T.e 57 (f := fun K => Hk.kitB K "Refusal" "ZeroDivisor" false) rfl)
theorem Txt.k_Refusal_ZeroDivisor (T : Txt K mg) : PySem.W.exmOne K (.ref (ga K "Refusal")) (.ref (ga K "ZeroDivisor")) = some false := He.exm_ok (T.e 58 (f := fun K => (He.Fa.exm "Refusal" "ZeroDivisor" false).ok K) rfl)
theorem Txt.ec_Refusal (T : Txt K mg) : ExcC K (ga K "Refusal") := Hk.excC_ok (T.e 59 (f := fun K => Hk.excCB K "Refusal") rfl)
theorem Txt.x_Refusal (T : Txt K mg) : Hk.ExcF K "Refusal" [.type "ValueError", .type "Exception", .type "BaseException", .type "object"] := Hk.exc_ok (T.e 60 (f := fun K => Hk.excB K "Refusal" [.type "ValueError", .type "Exception", .type "BaseException", .type "object"]) rfl)
theorem Txt.kt_ZeroDivisor_BookError (T : Txt K mg) : PySem.W.kitOne K (.ref (ga K "ZeroDivisor")) (.ref (ga K "BookError")) = some true := of_decide_eq_true (T.e 61 (f := fun K => Hk.kitB K "ZeroDivisor" "BookError" true) rfl)
theorem Txt.k_ZeroDivisor_BookError (T : Txt K mg) : PySem.W.exmOne K (.ref (ga K "ZeroDivisor")) (.ref (ga K "BookError")) = some true := He.exm_ok (T.e 62 (f := fun K => (He.Fa.exm "ZeroDivisor" "BookError" true).ok K) rfl)
theorem Txt.kt_ZeroDivisor_Refusal (T : Txt K mg) : PySem.W.kitOne K (.ref (ga K "ZeroDivisor")) (.ref (ga K "Refusal")) = some true := of_decide_eq_true (T.e 63 (f := fun K => Hk.kitB K "ZeroDivisor" "Refusal" true) rfl)
theorem Txt.k_ZeroDivisor_Refusal (T : Txt K mg) : PySem.W.exmOne K (.ref (ga K "ZeroDivisor")) (.ref (ga K "Refusal")) = some true := He.exm_ok (T.e 64 (f := fun K => (He.Fa.exm "ZeroDivisor" "Refusal" true).ok K) rfl)
theorem Txt.kt_ZeroDivisor_ZeroDivisor (T : Txt K mg) : PySem.W.kitOne K (.ref (ga K "ZeroDivisor")) (.ref (ga K "ZeroDivisor")) = some true := of_decide_eq_true (T.e 65 (f := fun K => Hk.kitB K "ZeroDivisor" "ZeroDivisor" true) rfl)
theorem Txt.k_ZeroDivisor_ZeroDivisor (T : Txt K mg) : PySem.W.exmOne K (.ref (ga K "ZeroDivisor")) (.ref (ga K "ZeroDivisor")) = some true := He.exm_ok (T.e 66 (f := fun K => (He.Fa.exm "ZeroDivisor" "ZeroDivisor" true).ok K) rfl)
theorem Txt.ec_ZeroDivisor (T : Txt K mg) : ExcC K (ga K "ZeroDivisor") := Hk.excC_ok (T.e 67 (f := fun K => Hk.excCB K "ZeroDivisor") rfl)
theorem Txt.oe_ZeroDivisor (T : Txt K mg) : OexC K (ga K "ZeroDivisor") := Hk.oex_ok (T.e 68 (f := fun K => Hk.oexB K "ZeroDivisor") rfl)
theorem Txt.xi_ZeroDivisor (T : Txt K mg) : Hk.XIn K "ZeroDivisor" := Hk.xin_ok (T.e 69 (f := fun K => Hk.xinB K "ZeroDivisor") rfl)
theorem Txt.xf_ZeroDivisor (T : Txt K mg) : XfC K (ga K "ZeroDivisor") := xfB_ok (T.e 70 (f := fun K => xfB K (ga K "ZeroDivisor")) rfl)
theorem Txt.nx_ZeroDivisor_told (T : Txt K mg) : PySem.W.findIn K (.ref (ga K "ZeroDivisor")) "told" = some none := He.eqO_ok (T.e 71 (f := fun K => Hk.noxB K "ZeroDivisor" "told") rfl)
theorem Txt.cl_Truth (T : Txt K mg) : Cls K (ga K "Truth") := He.cls_ok (T.e 72 (f := fun K => (He.Fa.cls "Truth").ok K) rfl)
theorem Txt.i_Truth (T : Txt K mg) : Hk.IsiF K (ga K "Truth") := Hk.isi_ok (T.e 73 (f := fun K => Hk.isiB K "Truth") rfl)
theorem Txt.kt_Truth_Truth (T : Txt K mg) : PySem.W.kitOne K (.ref (ga K "Truth")) (.ref (ga K "Truth")) = some true := of_decide_eq_true (T.e 74 (f := fun K => Hk.kitB K "Truth" "Truth" true) rfl)
theorem Txt.mk_Truth (T : Txt K mg) : Mk K (ga K "Truth") (Hk.mt K "Truth" "__init__") := He.mkr_ok (T.e 75 (f := fun K => (He.Fa.mkr "Truth").ok K) rfl)
theorem Txt.n_Truth_rank (T : Txt K mg) : NoAttr K (ga K "Truth") "rank" := He.noat_ok (T.e 76 (f := fun K => (He.Fa.noat "Truth" "rank").ok K) rfl)
theorem Txt.r_Truth (T : Txt K mg) : Hk.readB K "Truth" = true := (T.e 77 (f := fun K => Hk.readB K "Truth") rfl)
theorem Txt.sf_Truth (T : Txt K mg) : PySem.W.selfFirst K (ga K "Truth") = true := (T.e 78 (f := fun K => Hk.selfB K "Truth") rfl)
theorem Txt.st_Truth_of (T : Txt K mg) : Hk.statB K "Truth" "of" = true := (T.e 79 (f := fun K => Hk.statB K "Truth" "of") rfl)
theorem Txt.st_Truth_from_word (T : Txt K mg) : Hk.statB K "Truth" "from_word" = true := (T.e 80 (f := fun K => Hk.statB K "Truth" "from_word") rfl)
theorem Txt.p_Truth_value (T : Txt K mg) : PropOf K (ga K "Truth") "value" (Hk.mt K "Truth" "value") (Hk.pg K "Truth" "value") := Hk.prop_ok (T.e 81 (f := fun K => Hk.propB K "Truth" "value") rfl)
theorem Txt.p_Truth_word (T : Txt K mg) : PropOf K (ga K "Truth") "word" (Hk.mt K "Truth" "word") (Hk.pg K "Truth" "word") := Hk.prop_ok (T.e 82 (f := fun K => Hk.propB K "Truth" "word") rfl)
theorem Txt.m_Truth_and (T : Txt K mg) : Meth K (ga K "Truth") "__and__" (Hk.mt K "Truth" "__and__") := He.meth_ok (T.e 83 (f := fun K => (He.Fa.meth "Truth" "__and__").ok K) rfl)
theorem Txt.m_Truth_or (T : Txt K mg) : Meth K (ga K "Truth") "__or__" (Hk.mt K "Truth" "__or__") := He.meth_ok (T.e 84 (f := fun K => (He.Fa.meth "Truth" "__or__").ok K) rfl)
theorem Txt.m_Truth_xor (T : Txt K mg) : Meth K (ga K "Truth") "__xor__" (Hk.mt K "Truth" "__xor__") := He.meth_ok (T.e 85 (f := fun K => (He.Fa.meth "Truth" "__xor__").ok K) rfl)
theorem Txt.m_Truth_invert (T : Txt K mg) : Meth K (ga K "Truth") "__invert__" (Hk.mt K "Truth" "__invert__") := He.meth_ok (T.e 86 (f := fun K => (He.Fa.meth "Truth" "__invert__").ok K) rfl)
theorem Txt.m_Truth_eq (T : Txt K mg) : Meth K (ga K "Truth") "__eq__" (Hk.mt K "Truth" "__eq__") := He.meth_ok (T.e 87 (f := fun K => (He.Fa.meth "Truth" "__eq__").ok K) rfl)
theorem Txt.m_Truth_ne (T : Txt K mg) : Meth K (ga K "Truth") "__ne__" (Hk.mt K "Truth" "__ne__") := He.meth_ok (T.e 88 (f := fun K => (He.Fa.meth "Truth" "__ne__").ok K) rfl)
theorem Txt.m_Truth_lt (T : Txt K mg) : Meth K (ga K "Truth") "__lt__" (Hk.mt K "Truth" "__lt__") := He.meth_ok (T.e 89 (f := fun K => (He.Fa.meth "Truth" "__lt__").ok K) rfl)
theorem Txt.m_Truth_le (T : Txt K mg) : Meth K (ga K "Truth") "__le__" (Hk.mt K "Truth" "__le__") := He.meth_ok (T.e 90 (f := fun K => (He.Fa.meth "Truth" "__le__").ok K) rfl)
theorem Txt.m_Truth_bool (T : Txt K mg) : Meth K (ga K "Truth") "__bool__" (Hk.mt K "Truth" "__bool__") := He.meth_ok (T.e 91 (f := fun K => (He.Fa.meth "Truth" "__bool__").ok K) rfl)
theorem Txt.v_Truth_COUNT (T : Txt K mg) : ∃ u, ClX.CVal K (ga K "Truth") (.type "type") "COUNT" (.int 3) u := Hk.cval_ok (T.e 92 (f := fun K => Hk.cvalB K "Truth" "COUNT" (.int 3)) rfl)
theorem Txt.ku_WORDS (T : Txt K mg) : Fu.ktB K (.ktu [(.str "false"), (.str "unknown"), (.str "true")]) (.ref (ga K "WORDS")) = true := (T.e 93 (f := fun K => Fu.ktB K (.ktu [(.str "false"), (.str "unknown"), (.str "true")]) (.ref (ga K "WORDS"))) rfl)
theorem Txt.ku_MEANINGS (T : Txt K mg) : Fu.ktB K (.ktu [(.bl false), .non, (.bl true)]) (.ref (ga K "MEANINGS")) = true := (T.e 94 (f := fun K => Fu.ktB K (.ktu [(.bl false), .non, (.bl true)]) (.ref (ga K "MEANINGS"))) rfl)
theorem Txt.ku_VALUES (T : Txt K mg) : Fu.ktB K (.ktu [.non, (.int 0), (.int 1), (.int 2)]) (.ref (ga K "VALUES")) = true := (T.e 95 (f := fun K => Fu.ktB K (.ktu [.non, (.int 0), (.int 1), (.int 2)]) (.ref (ga K "VALUES"))) rfl)
theorem Txt.f_wall (T : Txt K mg) : ∃ fd, FunD K "_wall" "_wall" (defArgs s_wall) (defBody s_wall) (defScope s_wall) [] [] (ga K "_wall") fd := T.d 0 (d := d_wall) rfl
theorem Txt.f_ZeroDivisor_init (T : Txt K mg) : ∃ fd, FunD K "__init__" "ZeroDivisor.__init__" (defArgs s_ZeroDivisor_init) (defBody s_ZeroDivisor_init) (defScope s_ZeroDivisor_init) [] [] (Hk.mt K "ZeroDivisor" "__init__") fd := T.d 1 (d := d_ZeroDivisor_init) rfl
theorem Txt.f_Truth_init (T : Txt K mg) : ∃ fd, FunD K "__init__" "Truth.__init__" (defArgs s_Truth_init) (defBody s_Truth_init) (defScope s_Truth_init) [] [] (Hk.mt K "Truth" "__init__") fd := T.d 2 (d := d_Truth_init) rfl
theorem Txt.f_Truth_of (T : Txt K mg) : ∃ fd, FunD K "of" "Truth.of" (defArgs s_Truth_of) (defBody s_Truth_of) (defScope s_Truth_of) [] [] (Hk.sg K "Truth" "of") fd := T.d 3 (d := d_Truth_of) rfl
theorem Txt.f_Truth_from_word (T : Txt K mg) : ∃ fd, FunD K "from_word" "Truth.from_word" (defArgs s_Truth_from_word) (defBody s_Truth_from_word) (defScope s_Truth_from_word) [] [] (Hk.sg K "Truth" "from_word") fd := T.d 4 (d := d_Truth_from_word) rfl
theorem Txt.f_Truth_value (T : Txt K mg) : ∃ fd, FunD K "value" "Truth.value" (defArgs s_Truth_value) (defBody s_Truth_value) (defScope s_Truth_value) [] [] (Hk.pg K "Truth" "value") fd := T.d 5 (d := d_Truth_value) rfl
theorem Txt.f_Truth_word (T : Txt K mg) : ∃ fd, FunD K "word" "Truth.word" (defArgs s_Truth_word) (defBody s_Truth_word) (defScope s_Truth_word) [] [] (Hk.pg K "Truth" "word") fd := T.d 6 (d := d_Truth_word) rfl
theorem Txt.f_Truth_and (T : Txt K mg) : ∃ fd, FunD K "__and__" "Truth.__and__" (defArgs s_Truth_and) (defBody s_Truth_and) (defScope s_Truth_and) [] [] (Hk.mt K "Truth" "__and__") fd := T.d 7 (d := d_Truth_and) rfl
theorem Txt.f_Truth_or (T : Txt K mg) : ∃ fd, FunD K "__or__" "Truth.__or__" (defArgs s_Truth_or) (defBody s_Truth_or) (defScope s_Truth_or) [] [] (Hk.mt K "Truth" "__or__") fd := T.d 8 (d := d_Truth_or) rfl
theorem Txt.f_Truth_xor (T : Txt K mg) : ∃ fd, FunD K "__xor__" "Truth.__xor__" (defArgs s_Truth_xor) (defBody s_Truth_xor) (defScope s_Truth_xor) [] [] (Hk.mt K "Truth" "__xor__") fd := T.d 9 (d := d_Truth_xor) rfl
theorem Txt.f_Truth_invert (T : Txt K mg) : ∃ fd, FunD K "__invert__" "Truth.__invert__" (defArgs s_Truth_invert) (defBody s_Truth_invert) (defScope s_Truth_invert) [] [] (Hk.mt K "Truth" "__invert__") fd := T.d 10 (d := d_Truth_invert) rfl
theorem Txt.f_Truth_eq (T : Txt K mg) : ∃ fd, FunD K "__eq__" "Truth.__eq__" (defArgs s_Truth_eq) (defBody s_Truth_eq) (defScope s_Truth_eq) [] [] (Hk.mt K "Truth" "__eq__") fd := T.d 11 (d := d_Truth_eq) rfl
theorem Txt.f_Truth_ne (T : Txt K mg) : ∃ fd, FunD K "__ne__" "Truth.__ne__" (defArgs s_Truth_ne) (defBody s_Truth_ne) (defScope s_Truth_ne) [] [] (Hk.mt K "Truth" "__ne__") fd := T.d 12 (d := d_Truth_ne) rfl
theorem Txt.f_Truth_lt (T : Txt K mg) : ∃ fd, FunD K "__lt__" "Truth.__lt__" (defArgs s_Truth_lt) (defBody s_Truth_lt) (defScope s_Truth_lt) [] [] (Hk.mt K "Truth" "__lt__") fd := T.d 13 (d := d_Truth_lt) rfl
theorem Txt.f_Truth_le (T : Txt K mg) : ∃ fd, FunD K "__le__" "Truth.__le__" (defArgs s_Truth_le) (defBody s_Truth_le) (defScope s_Truth_le) [] [] (Hk.mt K "Truth" "__le__") fd := T.d 14 (d := d_Truth_le) rfl
theorem Txt.f_Truth_bool (T : Txt K mg) : ∃ fd, FunD K "__bool__" "Truth.__bool__" (defArgs s_Truth_bool) (defBody s_Truth_bool) (defScope s_Truth_bool) [] [] (Hk.mt K "Truth" "__bool__") fd := T.d 15 (d := d_Truth_bool) rfl
theorem Txt.f_truth (T : Txt K mg) : ∃ fd, FunD K "truth" "truth" (defArgs s_truth) (defBody s_truth) (defScope s_truth) [] [] (ga K "truth") fd := T.d 16 (d := d_truth) rfl
theorem Txt.f_simple_value (T : Txt K mg) : ∃ fd, FunD K "_simple_value" "_simple_value" (defArgs s_simple_value) (defBody s_simple_value) (defScope s_simple_value) [] [] (ga K "_simple_value") fd := T.d 17 (d := d_simple_value) rfl
theorem Txt.f_quotient_value (T : Txt K mg) : ∃ fd, FunD K "_quotient_value" "_quotient_value" (defArgs s_quotient_value) (defBody s_quotient_value) (defScope s_quotient_value) [] [] (ga K "_quotient_value") fd := T.d 18 (d := d_quotient_value) rfl
theorem Txt.f_all_rows (T : Txt K mg) : ∃ fd, FunD K "all_rows" "all_rows" (defArgs s_all_rows) (defBody s_all_rows) (defScope s_all_rows) [] [] (ga K "all_rows") fd := T.d 19 (d := d_all_rows) rfl
theorem Txt.f_outcome (T : Txt K mg) : ∃ fd, FunD K "outcome" "outcome" (defArgs s_outcome) (defBody s_outcome) (defScope s_outcome) [] [] (ga K "outcome") fd := T.d 20 (d := d_outcome) rfl
theorem Txt.f_outcomes (T : Txt K mg) : ∃ fd, FunD K "outcomes" "outcomes" (defArgs s_outcomes) (defBody s_outcomes) (defScope s_outcomes) [] [] (ga K "outcomes") fd := T.d 21 (d := d_outcomes) rfl
theorem Txt.f_true_rows (T : Txt K mg) : ∃ fd, FunD K "true_rows" "true_rows" (defArgs s_true_rows) (defBody s_true_rows) (defScope s_true_rows) [] [] (ga K "true_rows") fd := T.d 22 (d := d_true_rows) rfl
theorem Txt.f_live_rows (T : Txt K mg) : ∃ fd, FunD K "live_rows" "live_rows" (defArgs s_live_rows) (defBody s_live_rows) (defScope s_live_rows) [] [] (ga K "live_rows") fd := T.d 23 (d := d_live_rows) rfl
theorem Txt.f_escape (T : Txt K mg) : ∃ fd, FunD K "escape" "escape" (defArgs s_escape) (defBody s_escape) (defScope s_escape) [] [] (ga K "escape") fd := T.d 24 (d := d_escape) rfl
theorem Txt.f_alike (T : Txt K mg) : ∃ fd, FunD K "alike" "alike" (defArgs s_alike) (defBody s_alike) (defScope s_alike) [] [] (ga K "alike") fd := T.d 25 (d := d_alike) rfl
theorem Txt.f_box (T : Txt K mg) : ∃ fd, FunD K "_law_box" "_law_box" (defArgs s_box) (defBody s_box) (defScope s_box) [] [] (ga K "_law_box") fd := T.d 26 (d := d_box) rfl
theorem Txt.f_draw (T : Txt K mg) : ∃ fd, FunD K "_law_draw" "_law_draw" (defArgs s_draw) (defBody s_draw) (defScope s_draw) [] [] (ga K "_law_draw") fd := T.d 27 (d := d_draw) rfl
theorem Txt.f_condition (T : Txt K mg) : ∃ fd, FunD K "_law_condition" "_law_condition" (defArgs s_condition) (defBody s_condition) (defScope s_condition) [] [] (ga K "_law_condition") fd := T.d 28 (d := d_condition) rfl
theorem Txt.f_Ltruth (T : Txt K mg) : ∃ fd, FunD K "_law_truth" "_law_truth" (defArgs s_Ltruth) (defBody s_Ltruth) (defScope s_Ltruth) [] [] (ga K "_law_truth") fd := T.d 29 (d := d_Ltruth) rfl
theorem Txt.f_every (T : Txt K mg) : ∃ fd, FunD K "_law_every" "_law_every" (defArgs s_every) (defBody s_every) (defScope s_every) [] [] (ga K "_law_every") fd := T.d 30 (d := d_every) rfl
theorem Txt.f_Lalike (T : Txt K mg) : ∃ fd, FunD K "_law_alike" "_law_alike" (defArgs s_Lalike) (defBody s_Lalike) (defScope s_Lalike) [] [] (ga K "_law_alike") fd := T.d 31 (d := d_Lalike) rfl
theorem Txt.f_second (T : Txt K mg) : ∃ fd, FunD K "_law_second" "_law_second" (defArgs s_second) (defBody s_second) (defScope s_second) [] [] (ga K "_law_second") fd := T.d 32 (d := d_second) rfl
theorem Txt.f_codes (T : Txt K mg) : ∃ fd, FunD K "_law_codes" "_law_codes" (defArgs s_codes) (defBody s_codes) (defScope s_codes) [] [] (ga K "_law_codes") fd := T.d 33 (d := d_codes) rfl
theorem Txt.f_tables_told (T : Txt K mg) : ∃ fd, FunD K "_law_tables_told" "_law_tables_told" (defArgs s_tables_told) (defBody s_tables_told) (defScope s_tables_told) [] [] (ga K "_law_tables_told") fd := T.d 34 (d := d_tables_told) rfl
theorem Txt.f_Lescape (T : Txt K mg) : ∃ fd, FunD K "_law_escape" "_law_escape" (defArgs s_Lescape) (defBody s_Lescape) (defScope s_Lescape) [] [] (ga K "_law_escape") fd := T.d 35 (d := d_Lescape) rfl
theorem Txt.f_law (T : Txt K mg) : ∃ fd, FunD K "law" "law" (defArgs s_law) (defBody s_law) (defScope s_law) [] [] (ga K "law") fd := T.d 36 (d := d_law) rfl
end
/-! ### the head -/
abbrev R : PySem.W.OpenRow := PySem.W.OpenLaw.row PySem.Challenge.rw_bookstogether_k04_whole_closed_tables
abbrev hk : PySem.W.Hook := Hk.hookE 5 ex fn
def ob (s : PySem.W.SharedT) : He.AlD := Hk.obsEG 5 ex fn (HandSHeadRun.getT s)
theorem ob_eq (s : PySem.W.SharedT) : ob s = hk.obs s.abs := Hk.obsEG_eq (HandSHeadRun.getT_eq s)
def loose : List PySem.Str := ["_wall", "BookError", "Refusal", "ZeroDivisor", "WORDS", "MEANINGS", "Truth", "truth", "_simple_value", "_quotient_value", "VALUES", "all_rows", "outcome", "outcomes", "true_rows", "live_rows", "escape", "alike", "_law_box", "_law_draw", "_law_condition", "_law_truth", "_law_every", "_law_alike", "_law_second", "_law_codes", "_law_tables_told", "_law_escape"]
set_option maxHeartbeats 0 in
theorem run (w : World) : HandSHeadRun.RunEq R (PySem.W.view R.prog [34]) hk ob 9000 loose w := by
  intro os
  kernel_rfl
end T04

end
section
set_option Elab.async false
set_option linter.all false
set_option maxRecDepth 100000
set_option maxHeartbeats 4000000
namespace T04
open PySem PySem.Spec PyProof.Rows L2 Fu
open He (ga ma ba)
noncomputable section
variable {P : Program} {w : World} {K : PySem.W.Frag} {mg : Str → Option Value} {base : Heap}

end
end T04

end
section
set_option Elab.async false
set_option linter.all false
set_option maxRecDepth 100000
set_option maxHeartbeats 4000000
namespace T04
open PySem PySem.Spec PyProof.Rows L2 Fu
open He (ga ma ba)
noncomputable section
variable {P : Program} {w : World} {K : PySem.W.Frag} {mg : Str → Option Value} {base : Heap}
def fx_ZeroDivisor : FX := (("told", (tupF (consA (cF (.str "refused")) (consA (cF (.str "zero")) nilA)))) :: [])
theorem ok_ZeroDivisor_init (T : Txt K mg) : Hk.AOk P w K mg base (L2N.CX P w) 1 (Hk.mt K "ZeroDivisor" "__init__") ["self"] (spX K "ZeroDivisor" 1 0 fx_ZeroDivisor) := by
  refine Hk.mkAX T.f_ZeroDivisor_init (fun _ _ _ _ _ _ us hl => match us, hl with | [_], _ => rfl) sc_ZeroDivisor_init (fun vs H Q E h => spX_len h) (fun cdv A outer s H vs Q E hr h => ?_)
  exact ⟨_, (pss_cons (ps_ost (pv 0) (pe_tup (pa_cons pe_str (pa_cons pe_str pa_nil)))) pss_nil), x_go (N := ["self"]) (sxi_cons T.oe_ZeroDivisor T.nx_ZeroDivisor_told (fun _ => (se_tup (sa_cons se_str (sa_cons se_str sa_nil)))) sxi_nil) h⟩
end
end T04

end
section
set_option Elab.async false
set_option linter.all false
set_option maxRecDepth 100000
set_option maxHeartbeats 4000000
namespace T04
open PySem PySem.Spec PyProof.Rows L2 Fu
open He (ga ma ba)
noncomputable section
variable {P : Program} {w : World} {K : PySem.W.Frag} {mg : Str → Option Value} {base : Heap}
def b_Truth_init : FS := (fldS "Truth" "rank" (varF 0) (varF 1))
def F_Truth_init : Fn := fnOf 2 b_Truth_init
theorem ok_Truth_init (T : Txt K mg) : Hk.AOk P w K mg base (L2N.CX P w) 1 (Hk.mt K "Truth" "__init__") ["self", "rank"] (spF K 2 F_Truth_init) := by
  refine Hk.mkAX T.f_Truth_init (fun _ _ _ _ _ _ us hl => match us, hl with | [_, _], _ => rfl) sc_Truth_init (fun vs H Q E h => spF_len h) (fun cdv A outer s H vs Q E hr h => ?_)
  exact ⟨_, (pss_one (ps_fld (pv 0) (pv 1) rfl)), fn_go (N := ["self", "rank"]) (ss_fld T.cl_Truth T.n_Truth_rank se_var se_var) h⟩
end
end T04

end
section
set_option Elab.async false
set_option linter.all false
set_option maxRecDepth 100000
set_option maxHeartbeats 4000000
namespace T04
open PySem PySem.Spec PyProof.Rows L2 Fu
open He (ga ma ba)
noncomputable section
variable {P : Program} {w : World} {K : PySem.W.Frag} {mg : Str → Option Value} {base : Heap}
def b_Truth_from_word : FS := stuckS
def F_Truth_from_word : Fn := fnOf 1 b_Truth_from_word
theorem ok_Truth_from_word (T : Txt K mg) : Hk.AOk P w K mg base (L2N.CX P w) 1 (Hk.sg K "Truth" "from_word") ["word"] (spF K 1 F_Truth_from_word) := by
  refine Hk.mkAX T.f_Truth_from_word (fun _ _ _ _ _ _ us hl => match us, hl with | [_], _ => rfl) sc_Truth_from_word (fun vs H Q E h => spF_len h) (fun cdv A outer s H vs Q E hr h => ?_)
  exact ⟨_, (pss_one ps_never), fn_go (N := ["word"]) ss_never h⟩
end
end T04

end
section
set_option Elab.async false
set_option linter.all false
set_option maxRecDepth 100000
set_option maxHeartbeats 4000000
namespace T04
open PySem PySem.Spec PyProof.Rows L2 Fu
open He (ga ma ba)
noncomputable section
variable {P : Program} {w : World} {K : PySem.W.Frag} {mg : Str → Option Value} {base : Heap}
def b_Truth_value : FS := (retS (opF ixG (cF (.ktu [(.bl false), .non, (.bl true)])) (fldF "Truth" "rank" (varF 0))))
def F_Truth_value : Fn := fnOf 1 b_Truth_value
theorem ok_Truth_value (T : Txt K mg) : Hk.AOk P w K mg base (L2N.CX P w) 1 (Hk.pg K "Truth" "value") ["self"] (spF K 1 F_Truth_value) := by
  refine Hk.mkAX T.f_Truth_value (fun _ _ _ _ _ _ us hl => match us, hl with | [_], _ => rfl) sc_Truth_value (fun vs H Q E h => spF_len h) (fun cdv A outer s H vs Q E hr h => ?_)
  exact ⟨_, (pss_one (ps_ret (pe_ix ix_U (pe_glob (v := .ref (ga K "MEANINGS")) (by rfl) T.g_MEANINGS rfl) (pe_fld (pv 0) rfl) (fun _ _ => rfl)))), fn_go (N := ["self"]) (ss_ret (SimE.b (se_op sr_ix (SimE.b (se_ktup T.ku_MEANINGS)) (SimE.b (se_fld T.cl_Truth T.n_Truth_rank se_var))))) h⟩
end
end T04

end
section
set_option Elab.async false
set_option linter.all false
set_option maxRecDepth 100000
set_option maxHeartbeats 4000000
namespace T04
open PySem PySem.Spec PyProof.Rows L2 Fu
open He (ga ma ba)
noncomputable section
variable {P : Program} {w : World} {K : PySem.W.Frag} {mg : Str → Option Value} {base : Heap}
def b_Truth_word : FS := (retS (opF ixG (cF (.ktu [(.str "false"), (.str "unknown"), (.str "true")])) (fldF "Truth" "rank" (varF 0))))
def F_Truth_word : Fn := fnOf 1 b_Truth_word
theorem ok_Truth_word (T : Txt K mg) : Hk.AOk P w K mg base (L2N.CX P w) 1 (Hk.pg K "Truth" "word") ["self"] (spF K 1 F_Truth_word) := by
  refine Hk.mkAX T.f_Truth_word (fun _ _ _ _ _ _ us hl => match us, hl with | [_], _ => rfl) sc_Truth_word (fun vs H Q E h => spF_len h) (fun cdv A outer s H vs Q E hr h => ?_)
  exact ⟨_, (pss_one (ps_ret (pe_ix ix_U (pe_glob (v := .ref (ga K "WORDS")) (by rfl) T.g_WORDS rfl) (pe_fld (pv 0) rfl) (fun _ _ => rfl)))), fn_go (N := ["self"]) (ss_ret (SimE.b (se_op sr_ix (SimE.b (se_ktup T.ku_WORDS)) (SimE.b (se_fld T.cl_Truth T.n_Truth_rank se_var))))) h⟩
end
end T04

end
section
set_option Elab.async false
set_option linter.all false
set_option maxRecDepth 100000
set_option maxHeartbeats 4000000
namespace T04
open PySem PySem.Spec PyProof.Rows L2 Fu
open He (ga ma ba)
noncomputable section
variable {P : Program} {w : World} {K : PySem.W.Frag} {mg : Str → Option Value} {base : Heap}
def b_Truth_and : FS := (retS (ifF (tstF (opF ltG (fldF "Truth" "rank" (varF 0)) (fldF "Truth" "rank" (varF 1)))) (varF 0) (varF 1)))
def F_Truth_and : Fn := fnOf 2 b_Truth_and
theorem ok_Truth_and (T : Txt K mg) : Hk.AOk P w K mg base (L2N.CX P w) 1 (Hk.mt K "Truth" "__and__") ["self", "other"] (spF K 2 F_Truth_and) := by
  refine Hk.mkAX T.f_Truth_and (fun _ _ _ _ _ _ us hl => match us, hl with | [_, _], _ => rfl) sc_Truth_and (fun vs H Q E h => spF_len h) (fun cdv A outer s H vs Q E hr h => ?_)
  exact ⟨_, (pss_one (ps_ret (pe_ifExp (pt_cmpR op_lt (pe_fld (pv 0) rfl) (pe_fld (pv 1) rfl) (nomark _)) (pv 0) (pv 1)))), fn_go (N := ["self", "other"]) (ss_ret (SimE.b (se_if (st_tst (SimE.b (se_op sr_cmp (SimE.b (se_fld T.cl_Truth T.n_Truth_rank se_var)) (SimE.b (se_fld T.cl_Truth T.n_Truth_rank se_var))))) se_var se_var))) h⟩
end
end T04

end
section
set_option Elab.async false
set_option linter.all false
set_option maxRecDepth 100000
set_option maxHeartbeats 4000000
namespace T04
open PySem PySem.Spec PyProof.Rows L2 Fu
open He (ga ma ba)
noncomputable section
variable {P : Program} {w : World} {K : PySem.W.Frag} {mg : Str → Option Value} {base : Heap}
def b_Truth_or : FS := (retS (ifF (tstF (opF gtG (fldF "Truth" "rank" (varF 0)) (fldF "Truth" "rank" (varF 1)))) (varF 0) (varF 1)))
def F_Truth_or : Fn := fnOf 2 b_Truth_or
theorem ok_Truth_or (T : Txt K mg) : Hk.AOk P w K mg base (L2N.CX P w) 1 (Hk.mt K "Truth" "__or__") ["self", "other"] (spF K 2 F_Truth_or) := by
  refine Hk.mkAX T.f_Truth_or (fun _ _ _ _ _ _ us hl => match us, hl with | [_, _], _ => rfl) sc_Truth_or (fun vs H Q E h => spF_len h) (fun cdv A outer s H vs Q E hr h => ?_)
  exact ⟨_, (pss_one (ps_ret (pe_ifExp (pt_cmpR op_gt (pe_fld (pv 0) rfl) (pe_fld (pv 1) rfl) (nomark _)) (pv 0) (pv 1)))), fn_go (N := ["self", "other"]) (ss_ret (SimE.b (se_if (st_tst (SimE.b (se_op sr_cmp (SimE.b (se_fld T.cl_Truth T.n_Truth_rank se_var)) (SimE.b (se_fld T.cl_Truth T.n_Truth_rank se_var))))) se_var se_var))) h⟩
end
end T04

end
section
set_option Elab.async false
set_option linter.all false
set_option maxRecDepth 100000
set_option maxHeartbeats 4000000
namespace T04
open PySem PySem.Spec PyProof.Rows L2 Fu
open He (ga ma ba)
noncomputable section
variable {P : Program} {w : World} {K : PySem.W.Frag} {mg : Str → Option Value} {base : Heap}
def b_Truth_eq : FS := (seqS (ifS (notT (tstF (callB isiG (consA (bvarF 1) (consA (cF (.con "Truth")) nilA)))))
        stuckS
        nextS)
      (retS (opF (eqG id) (fldF "Truth" "rank" (varF 0)) (fldF "Truth" "rank" (varF 1)))))
def F_Truth_eq : Fn := fnOf 2 b_Truth_eq
theorem ok_Truth_eq (T : Txt K mg) : Hk.AOk P w K mg base (L2N.CX P w) 1 (Hk.mt K "Truth" "__eq__") ["self", "other"] (spF K 2 F_Truth_eq) := by
  refine Hk.mkAX T.f_Truth_eq (fun _ _ _ _ _ _ us hl => match us, hl with | [_, _], _ => rfl) sc_Truth_eq (fun vs H Q E h => spF_len h) (fun cdv A outer s H vs Q E hr h => ?_)
  exact ⟨_, (pss_cons (ps_if (pt_not (pt_val (pe_callB call_isi (by rfl) T.z_isinstance (by decide +kernel) (pa_cons (pv 1) (pa_cons (pe_glob (v := .ref (ga K "Truth")) (by rfl) T.g_Truth rfl) pa_nil)))))
        (pss_one ps_never)
        pss_nil)
      (pss_one (ps_ret (pe_cmpR (op_eqU hr.units) (pe_fld (pv 0) rfl) (pe_fld (pv 1) rfl) (nomark _))))), fn_go (N := ["self", "other"]) (ss_seq (ss_if (st_not (st_tB (SimE.b (se_cb sc_isi (sab_cons sb_var (sab_cons (SimE.b se_con) sab_nil))))))
        ss_never
        ss_next)
      (ss_ret (SimE.b (se_op sr_eq (SimE.b (se_fld T.cl_Truth T.n_Truth_rank se_var)) (SimE.b (se_fld T.cl_Truth T.n_Truth_rank se_var)))))) h⟩
end
end T04

end
section
set_option Elab.async false
set_option linter.all false
set_option maxRecDepth 100000
set_option maxHeartbeats 4000000
namespace T04
open PySem PySem.Spec PyProof.Rows L2 Fu
open He (ga ma ba)
noncomputable section
variable {P : Program} {w : World} {K : PySem.W.Frag} {mg : Str → Option Value} {base : Heap}
def b_Truth_ne : FS := (seqS (ifS (notT (tstF (callB isiG (consA (bvarF 1) (consA (cF (.con "Truth")) nilA)))))
        stuckS
        nextS)
      (retS (opF (eqG not) (fldF "Truth" "rank" (varF 0)) (fldF "Truth" "rank" (varF 1)))))
def F_Truth_ne : Fn := fnOf 2 b_Truth_ne
theorem ok_Truth_ne (T : Txt K mg) : Hk.AOk P w K mg base (L2N.CX P w) 1 (Hk.mt K "Truth" "__ne__") ["self", "other"] (spF K 2 F_Truth_ne) := by
  refine Hk.mkAX T.f_Truth_ne (fun _ _ _ _ _ _ us hl => match us, hl with | [_, _], _ => rfl) sc_Truth_ne (fun vs H Q E h => spF_len h) (fun cdv A outer s H vs Q E hr h => ?_)
  exact ⟨_, (pss_cons (ps_if (pt_not (pt_val (pe_callB call_isi (by rfl) T.z_isinstance (by decide +kernel) (pa_cons (pv 1) (pa_cons (pe_glob (v := .ref (ga K "Truth")) (by rfl) T.g_Truth rfl) pa_nil)))))
        (pss_one ps_never)
        pss_nil)
      (pss_one (ps_ret (pe_cmpR (op_neU hr.units) (pe_fld (pv 0) rfl) (pe_fld (pv 1) rfl) (nomark _))))), fn_go (N := ["self", "other"]) (ss_seq (ss_if (st_not (st_tB (SimE.b (se_cb sc_isi (sab_cons sb_var (sab_cons (SimE.b se_con) sab_nil))))))
        ss_never
        ss_next)
      (ss_ret (SimE.b (se_op sr_ne (SimE.b (se_fld T.cl_Truth T.n_Truth_rank se_var)) (SimE.b (se_fld T.cl_Truth T.n_Truth_rank se_var)))))) h⟩
end
end T04

end
section
set_option Elab.async false
set_option linter.all false
set_option maxRecDepth 100000
set_option maxHeartbeats 4000000
namespace T04
open PySem PySem.Spec PyProof.Rows L2 Fu
open He (ga ma ba)
noncomputable section
variable {P : Program} {w : World} {K : PySem.W.Frag} {mg : Str → Option Value} {base : Heap}
def b_Truth_lt : FS := (seqS (ifS (notT (tstF (callB isiG (consA (bvarF 1) (consA (cF (.con "Truth")) nilA)))))
        stuckS
        nextS)
      (retS (opF ltG (fldF "Truth" "rank" (varF 0)) (fldF "Truth" "rank" (varF 1)))))
def F_Truth_lt : Fn := fnOf 2 b_Truth_lt
theorem ok_Truth_lt (T : Txt K mg) : Hk.AOk P w K mg base (L2N.CX P w) 1 (Hk.mt K "Truth" "__lt__") ["self", "other"] (spF K 2 F_Truth_lt) := by
  refine Hk.mkAX T.f_Truth_lt (fun _ _ _ _ _ _ us hl => match us, hl with | [_, _], _ => rfl) sc_Truth_lt (fun vs H Q E h => spF_len h) (fun cdv A outer s H vs Q E hr h => ?_)
  exact ⟨_, (pss_cons (ps_if (pt_not (pt_val (pe_callB call_isi (by rfl) T.z_isinstance (by decide +kernel) (pa_cons (pv 1) (pa_cons (pe_glob (v := .ref (ga K "Truth")) (by rfl) T.g_Truth rfl) pa_nil)))))
        (pss_one ps_never)
        pss_nil)
      (pss_one (ps_ret (pe_cmpR op_lt (pe_fld (pv 0) rfl) (pe_fld (pv 1) rfl) (nomark _))))), fn_go (N := ["self", "other"]) (ss_seq (ss_if (st_not (st_tB (SimE.b (se_cb sc_isi (sab_cons sb_var (sab_cons (SimE.b se_con) sab_nil))))))
        ss_never
        ss_next)
      (ss_ret (SimE.b (se_op sr_cmp (SimE.b (se_fld T.cl_Truth T.n_Truth_rank se_var)) (SimE.b (se_fld T.cl_Truth T.n_Truth_rank se_var)))))) h⟩
end
end T04

end
section
set_option Elab.async false
set_option linter.all false
set_option maxRecDepth 100000
set_option maxHeartbeats 4000000
namespace T04
open PySem PySem.Spec PyProof.Rows L2 Fu
open He (ga ma ba)
noncomputable section
variable {P : Program} {w : World} {K : PySem.W.Frag} {mg : Str → Option Value} {base : Heap}
def b_Truth_le : FS := (seqS (ifS (notT (tstF (callB isiG (consA (bvarF 1) (consA (cF (.con "Truth")) nilA)))))
        stuckS
        nextS)
      (retS (opF leG (fldF "Truth" "rank" (varF 0)) (fldF "Truth" "rank" (varF 1)))))
def F_Truth_le : Fn := fnOf 2 b_Truth_le
theorem ok_Truth_le (T : Txt K mg) : Hk.AOk P w K mg base (L2N.CX P w) 1 (Hk.mt K "Truth" "__le__") ["self", "other"] (spF K 2 F_Truth_le) := by
  refine Hk.mkAX T.f_Truth_le (fun _ _ _ _ _ _ us hl => match us, hl with | [_, _], _ => rfl) sc_Truth_le (fun vs H Q E h => spF_len h) (fun cdv A outer s H vs Q E hr h => ?_)
  exact ⟨_, (pss_cons (ps_if (pt_not (pt_val (pe_callB call_isi (by rfl) T.z_isinstance (by decide +kernel) (pa_cons (pv 1) (pa_cons (pe_glob (v := .ref (ga K "Truth")) (by rfl) T.g_Truth rfl) pa_nil)))))
        (pss_one ps_never)
        pss_nil)
      (pss_one (ps_ret (pe_cmpR op_le (pe_fld (pv 0) rfl) (pe_fld (pv 1) rfl) (nomark _))))), fn_go (N := ["self", "other"]) (ss_seq (ss_if (st_not (st_tB (SimE.b (se_cb sc_isi (sab_cons sb_var (sab_cons (SimE.b se_con) sab_nil))))))
        ss_never
        ss_next)
      (ss_ret (SimE.b (se_op sr_cmp (SimE.b (se_fld T.cl_Truth T.n_Truth_rank se_var)) (SimE.b (se_fld T.cl_Truth T.n_Truth_rank se_var)))))) h⟩
end
end T04

end
section
set_option Elab.async false
set_option linter.all false
set_option maxRecDepth 100000
set_option maxHeartbeats 4000000
namespace T04
open PySem PySem.Spec PyProof.Rows L2 Fu
open He (ga ma ba)
noncomputable section
variable {P : Program} {w : World} {K : PySem.W.Frag} {mg : Str → Option Value} {base : Heap}
def b_Truth_bool : FS := (retS (callB boolC (consA (opF (eqG id) (fldF "Truth" "rank" (varF 0)) (cF (.int 2))) nilA)))
def F_Truth_bool : Fn := fnOf 1 b_Truth_bool
theorem ok_Truth_bool (T : Txt K mg) : Hk.AOk P w K mg base (L2N.CX P w) 1 (Hk.mt K "Truth" "__bool__") ["self"] (spF K 1 F_Truth_bool) := by
  refine Hk.mkAX T.f_Truth_bool (fun _ _ _ _ _ _ us hl => match us, hl with | [_], _ => rfl) sc_Truth_bool (fun vs H Q E h => spF_len h) (fun cdv A outer s H vs Q E hr h => ?_)
  exact ⟨_, (pss_one (ps_ret (pe_callTy call_bool1 (by rfl) T.z_bool (by decide +kernel) (pa_cons (pe_cmpR (op_eqU hr.units) (pe_fld (pv 0) rfl) pe_int (nomark _)) pa_nil)))), fn_go (N := ["self"]) (ss_ret (SimE.b (se_cb sc_bool (sab_cons (SimE.b (se_op sr_eq (SimE.b (se_fld T.cl_Truth T.n_Truth_rank se_var)) (SimE.b se_int))) sab_nil)))) h⟩
end
end T04

end
section
set_option Elab.async false
set_option linter.all false
set_option maxRecDepth 100000
set_option maxHeartbeats 4000000
namespace T04
open PySem PySem.Spec PyProof.Rows L2 Fu
open He (ga ma ba)
noncomputable section
variable {P : Program} {w : World} {K : PySem.W.Frag} {mg : Str → Option Value} {base : Heap}
def F_all_rows : List PV := rows3 [.non, (.int 0), (.int 1), (.int 2)]
theorem ok_all_rows (T : Txt K mg) : GGOk P w K mg base 1 "all_rows" [] (spGen K F_all_rows) := by
  obtain ⟨fd, F⟩ := T.f_all_rows
  refine ⟨T.g_all_rows, fd, F.kp, fun s us _ hl => ?_, F.gok (k := 0) sc_all_rows (fun vs H Q E h => by rw [h.1]; rfl) fun cdv A outer s H vs Q E pn hr h => ⟨_, (gss_cons (gs_for owns_gcx rfl (pi_any (pe_glob (v := .ref (ga K "VALUES")) (by rfl) T.g_VALUES rfl)) (pg_name (i := 0) sc_all_rows.nd rfl (Or.inl rfl)) (gss_cons (gs_for owns_gcx rfl (pi_any (pe_glob (v := .ref (ga K "VALUES")) (by rfl) T.g_VALUES rfl)) (pg_name (i := 1) sc_all_rows.nd rfl (Or.inl rfl)) (gss_cons (gs_for owns_gcx rfl (pi_any (pe_glob (v := .ref (ga K "VALUES")) (by rfl) T.g_VALUES rfl)) (pg_name (i := 2) sc_all_rows.nd rfl (Or.inl rfl)) (gss_cons (gs_yield (pe_tup (pa_cons (pe_var (i := 0) rfl (Or.inl rfl)) (pa_cons (pe_var (i := 1) rfl (Or.inl rfl)) (pa_cons (pe_var (i := 2) rfl (Or.inl rfl)) pa_nil))))) gss_nil)) gss_nil)) gss_nil)) gss_nil), ?_⟩⟩
  · have := FunD.bindsA (ps := []) F (fun _ _ _ _ _ _ us hl => match us, hl with | [], _ => rfl) s us (by simpa using hl)
    simpa using this
  · obtain ⟨rfl, q⟩ := h
    refine gen3 (xs := [.non, (.int 0), (.int 1), (.int 2)]) (qs := [.non, (.int 0), (.int 1), (.int 2)]) (fun _ _ _ q => q) T.t_VALUES rfl (by decide) (fun i x e => ?_) fun ys σ H' o => q ys H' o.1 o.2
    match i, e with
    | 0, e => cases e; exact ⟨_, rfl, fun _ _ _ => .non⟩
    | 1, e => cases e; exact ⟨_, rfl, fun _ _ _ => .int⟩
    | 2, e => cases e; exact ⟨_, rfl, fun _ _ _ => .int⟩
    | 3, e => cases e; exact ⟨_, rfl, fun _ _ _ => .int⟩
    | _ + 4, e => cases e
theorem w_all_rows (T : Txt K mg) : GGW P w K mg base "all_rows" (rowsV [.non, (.int 0), (.int 1), (.int 2)]) F_all_rows := by
  obtain ⟨fd, F⟩ := T.f_all_rows
  have v3 := vals3 (K := K) (xs := [.non, (.int 0), (.int 1), (.int 2)]) (qs := [.non, (.int 0), (.int 1), (.int 2)]) rfl (fun i x e => by
    match i, e with
    | 0, e => cases e; exact ⟨_, rfl, fun _ _ _ => .non⟩
    | 1, e => cases e; exact ⟨_, rfl, fun _ _ _ => .int⟩
    | 2, e => cases e; exact ⟨_, rfl, fun _ _ _ => .int⟩
    | 3, e => cases e; exact ⟨_, rfl, fun _ _ _ => .int⟩
    | _ + 4, e => cases e)
  refine ⟨gwk3 (te := tC (.ref (ga K "VALUES"))) T.g_all_rows F (fun s us _ hl => ?_) sc_all_rows (by decide) rfl (fun _ _ _ q => q) T.t_VALUES (by decide) (fun Y pins L cdv Ac U hr G => (gss2_cons (gs2_forC G (fun _ => (pi_any (pe_glob (v := .ref (ga K "VALUES")) (by rfl) T.g_VALUES rfl))) (fun _ => pg_name (i := 0) sc_all_rows.nd rfl (Or.inl rfl)) (gss2_cons (gs2_forC G (fun _ => (pi_any (pe_glob (v := .ref (ga K "VALUES")) (by rfl) T.g_VALUES rfl))) (fun _ => pg_name (i := 1) sc_all_rows.nd rfl (Or.inl rfl)) (gss2_cons (gs2_forC G (fun _ => (pi_any (pe_glob (v := .ref (ga K "VALUES")) (by rfl) T.g_VALUES rfl))) (fun _ => pg_name (i := 2) sc_all_rows.nd rfl (Or.inl rfl)) (gss2_cons (gs2_yield (fun _ => pe_tup (pa_cons (pe_var (i := 0) rfl (Or.inl rfl)) (pa_cons (pe_var (i := 1) rfl (Or.inl rfl)) (pa_cons (pe_var (i := 2) rfl (Or.inl rfl)) pa_nil)))) (fun _ _ z => z)) gss2_nil)) gss2_nil)) gss2_nil)) gss2_nil)), by decide, v3.1, v3.2⟩
  have := FunD.bindsA (ps := []) F (fun _ _ _ _ _ _ us hl => match us, hl with | [], _ => rfl) s us (by simpa using hl)
  simpa using this
end
end T04

end
section
set_option Elab.async false
set_option linter.all false
set_option maxRecDepth 100000
set_option maxHeartbeats 4000000
namespace T04
open PySem PySem.Spec PyProof.Rows L2 Fu
open He (ga ma ba)
noncomputable section
variable {P : Program} {w : World} {K : PySem.W.Frag} {mg : Str → Option Value} {base : Heap}
def b_box : FS := (retS (liveF (lstN (consA (valN (listN (consA (bvarF 0) nilA))) (consA (cF (.int 0)) (consA (cF (.int 0)) (consA (cF (.int 0)) (consA (cF (.int 0)) nilA))))))))
def F_box : Fn := fnOf 1 b_box
theorem ok_box (T : Txt K mg) : Hk.GOk P w K mg base (L2N.CX P w) 1 "_law_box" ["_law_script"] (spF K 1 F_box) := by
  refine Hk.mkGX T.g__law_box T.f_box (fun _ _ _ _ _ _ us hl => match us, hl with | [_], _ => rfl) sc_box (fun vs H Q E h => spF_len h) (fun cdv A outer s H vs Q E hr h => ?_)
  exact ⟨_, (pss_one (ps_ret (pe_lst (pa_cons (pe_callTy call_listU (by rfl) T.z_list (by decide +kernel) (pa_cons (pv 0) pa_nil)) (pa_cons pe_int (pa_cons pe_int (pa_cons pe_int (pa_cons pe_int pa_nil)))))))), fn_go (N := ["_law_script"]) (ss_ret (SimE.b (se_live (sn_lst (sa_cons (SimN.e (sn_list (sab_cons sb_var sab_nil))) (sa_cons se_int (sa_cons se_int (sa_cons se_int (sa_cons se_int sa_nil))))))))) h⟩
end
end T04

end
section
set_option Elab.async false
set_option linter.all false
set_option maxRecDepth 100000
set_option maxHeartbeats 4000000
namespace T04
open PySem PySem.Spec PyProof.Rows L2 Fu
open He (ga ma ba)
noncomputable section
variable {P : Program} {w : World} {K : PySem.W.Frag} {mg : Str → Option Value} {base : Heap}
def b_draw : FS := (seqS (ifS (tstF (opF (eqG id) (opF ixG (bvarF 0) (cF (.int 3))) (cF (.int 0))))
        (seqS (ifS (tstF (opF geG (opF ixG (bvarF 0) (cF (.int 1))) (callB lenG (consA (opF ixG (bvarF 0) (cF (.int 0))) nilA))))
          (retS (cF (.int 0)))
          nextS)
        (seqS (asgS (callB absG (consA (callB intC (consA (opF ixG (opF ixG (bvarF 0) (cF (.int 0))) (opF ixG (bvarF 0) (cF (.int 1)))) nilA)) nilA)) (subsG (varF 0) (cF (.int 2))))
        (seqS (asgS (opF addG (opF ixG (bvarF 0) (cF (.int 1))) (cF (.int 1))) (subsG (varF 0) (cF (.int 1))))
        (seqS (asgS (callB intC (consA (opF geG (opF ixG (bvarF 0) (cF (.int 2))) (opF powG (cF (.int 10)) (cF (.int 18)))) nilA)) (subsG (varF 0) (cF (.int 4))))
        (asgS (opF addG (cF (.int 12)) (opF mulG (cF (.int 48)) (opF ixG (bvarF 0) (cF (.int 4))))) (subsG (varF 0) (cF (.int 3))))))))
        nextS)
      (seqS (asgS (opF subG (opF ixG (bvarF 0) (cF (.int 3))) (cF (.int 1))) (subsG (varF 0) (cF (.int 3))))
      (seqS (ifS (tstF (opF (eqG id) (opF ixG (bvarF 0) (cF (.int 4))) (cF (.int 1))))
        (seqS (asgS (opF modG (callB intC (consA (opF ixG (bvarF 0) (cF (.int 2))) nilA)) (bvarF 1)) (nameG 2))
        (seqS (asgS (opF divG (callB intC (consA (opF ixG (bvarF 0) (cF (.int 2))) nilA)) (bvarF 1)) (subsG (varF 0) (cF (.int 2))))
        (seqS (ifS (tstF (opF (eqG id) (opF ixG (bvarF 0) (cF (.int 2))) (cF (.int 0))))
          (asgS (cF (.int 0)) (subsG (varF 0) (cF (.int 3))))
          nextS)
        (retS (bvarF 2)))))
        nextS)
      (seqS (asgS (opF modG (callB intC (consA (opF addG (opF addG (opF mulG (callB intC (consA (opF ixG (bvarF 0) (cF (.int 2))) nilA)) (cF (.int 48271))) (opF mulG (opF ixG (bvarF 0) (cF (.int 3))) (cF (.int 69621)))) (cF (.int 13))) nilA)) (cF (.int 2147483647))) (nameG 3))
      (seqS (asgS (opF modG (callB intC (consA (opF addG (opF addG (opF mulG (bvarF 3) (cF (.int 16807))) (opF mulG (opF ixG (bvarF 0) (cF (.int 3))) (cF (.int 40692)))) (cF (.int 7))) nilA)) (cF (.int 2147483629))) (nameG 3))
      (retS (opF modG (callB intC (consA (bvarF 3) nilA)) (bvarF 1))))))))
def F_draw : Fn := fnOf 4 b_draw
theorem ok_draw (T : Txt K mg) : Hk.GOk P w K mg base (L2N.CX P w) 1 "_law_draw" ["_law_box_here", "_law_size"] (spF K 2 F_draw) := by
  refine Hk.mkGX T.g__law_draw T.f_draw (fun _ _ _ _ _ _ us hl => match us, hl with | [_, _], _ => rfl) sc_draw (fun vs H Q E h => spF_len h) (fun cdv A outer s H vs Q E hr h => ?_)
  exact ⟨_, (pss_cons (ps_if (pt_cmpR (op_eqU hr.units) (pe_ix ix_U (pv 0) pe_int (fun _ _ => rfl)) pe_int (nomark _))
        (pss_cons (ps_if (pt_cmpR op_ge (pe_ix ix_U (pv 0) pe_int (fun _ _ => rfl)) (pe_callB call_lenU (by rfl) T.z_len (by decide +kernel) (pa_cons (pe_ix ix_U (pv 0) pe_int (fun _ _ => rfl)) pa_nil)) (nomark _))
          (pss_one (ps_ret pe_int))
          pss_nil)
        (pss_cons (ps_asg (pe_callB call_abs (by rfl) T.z_abs (by decide +kernel) (pa_cons (pe_callTy call_int1 (by rfl) T.z_int (by decide +kernel) (pa_cons (pe_ix ix_U (pe_ix ix_U (pv 0) pe_int (fun _ _ => rfl)) (pe_ix ix_U (pv 0) pe_int (fun _ _ => rfl)) (fun _ _ => rfl)) pa_nil)) pa_nil)) (pg_sub (pv 0) pe_int set_list))
        (pss_cons (ps_asg (pe_op op_addU (pe_ix ix_U (pv 0) pe_int (fun _ _ => rfl)) pe_int) (pg_sub (pv 0) pe_int set_list))
        (pss_cons (ps_asg (pe_callTy call_int1 (by rfl) T.z_int (by decide +kernel) (pa_cons (pe_cmpR op_ge (pe_ix ix_U (pv 0) pe_int (fun _ _ => rfl)) (pe_op op_pow pe_int pe_int) (nomark _)) pa_nil)) (pg_sub (pv 0) pe_int set_list))
        (pss_one (ps_asg (pe_op op_addU pe_int (pe_op op_mul pe_int (pe_ix ix_U (pv 0) pe_int (fun _ _ => rfl)))) (pg_sub (pv 0) pe_int set_list)))))))
        pss_nil)
      (pss_cons (ps_asg (pe_op op_sub (pe_ix ix_U (pv 0) pe_int (fun _ _ => rfl)) pe_int) (pg_sub (pv 0) pe_int set_list))
      (pss_cons (ps_if (pt_cmpR (op_eqU hr.units) (pe_ix ix_U (pv 0) pe_int (fun _ _ => rfl)) pe_int (nomark _))
        (pss_cons (ps_set (i := 2) sc_draw.nd rfl (.inl rfl) (pe_op op_modN (pe_callTy call_int1 (by rfl) T.z_int (by decide +kernel) (pa_cons (pe_ix ix_U (pv 0) pe_int (fun _ _ => rfl)) pa_nil)) (pv 1)))
        (pss_cons (ps_asg (pe_op op_fdivN (pe_callTy call_int1 (by rfl) T.z_int (by decide +kernel) (pa_cons (pe_ix ix_U (pv 0) pe_int (fun _ _ => rfl)) pa_nil)) (pv 1)) (pg_sub (pv 0) pe_int set_list))
        (pss_cons (ps_if (pt_cmpR (op_eqU hr.units) (pe_ix ix_U (pv 0) pe_int (fun _ _ => rfl)) pe_int (nomark _))
          (pss_one (ps_asg pe_int (pg_sub (pv 0) pe_int set_list)))
          pss_nil)
        (pss_one (ps_ret (pv 2))))))
        pss_nil)
      (pss_cons (ps_set (i := 3) sc_draw.nd rfl (.inl rfl) (pe_op op_modN (pe_callTy call_int1 (by rfl) T.z_int (by decide +kernel) (pa_cons (pe_op op_addU (pe_op op_addU (pe_op op_mul (pe_callTy call_int1 (by rfl) T.z_int (by decide +kernel) (pa_cons (pe_ix ix_U (pv 0) pe_int (fun _ _ => rfl)) pa_nil)) pe_int) (pe_op op_mul (pe_ix ix_U (pv 0) pe_int (fun _ _ => rfl)) pe_int)) pe_int) pa_nil)) pe_int))
      (pss_cons (ps_set (i := 3) sc_draw.nd rfl (.inl rfl) (pe_op op_modN (pe_callTy call_int1 (by rfl) T.z_int (by decide +kernel) (pa_cons (pe_op op_addU (pe_op op_addU (pe_op op_mul (pv 3) pe_int) (pe_op op_mul (pe_ix ix_U (pv 0) pe_int (fun _ _ => rfl)) pe_int)) pe_int) pa_nil)) pe_int))
      (pss_one (ps_ret (pe_op op_modN (pe_callTy call_int1 (by rfl) T.z_int (by decide +kernel) (pa_cons (pv 3) pa_nil)) (pv 1))))))))), fn_go (N := ["_law_box_here", "_law_size", "_law_drawn", "_law_mixed"]) (ss_seq (ss_if (st_tst (SimE.b (se_op sr_eq (SimE.b (se_op sr_ix sb_var (SimE.b se_int))) (SimE.b se_int))))
        (ss_seq (ss_if (st_tst (SimE.b (se_op sr_cmp (SimE.b (se_op sr_ix sb_var (SimE.b se_int))) (SimE.b (se_cb sc_len (sab_cons (SimE.b (se_op sr_ix sb_var (SimE.b se_int))) sab_nil))))))
          (ss_ret (SimE.b se_int))
          ss_next)
        (ss_seq (ss_asg (se_cb sc_abs (sab_cons (SimE.b (se_cb sc_int (sab_cons (SimE.b (se_op sr_ix (SimE.b (se_op sr_ix sb_var (SimE.b se_int))) (SimE.b (se_op sr_ix sb_var (SimE.b se_int))))) sab_nil))) sab_nil)) (sg_sub se_var (SimE.b se_int)))
        (ss_seq (ss_asg (se_op sr_add (SimE.b (se_op sr_ix sb_var (SimE.b se_int))) (SimE.b se_int)) (sg_sub se_var (SimE.b se_int)))
        (ss_seq (ss_asg (se_cb sc_int (sab_cons (SimE.b (se_op sr_cmp (SimE.b (se_op sr_ix sb_var (SimE.b se_int))) (SimE.b (se_op sr_pow (SimE.b se_int) (SimE.b se_int))))) sab_nil)) (sg_sub se_var (SimE.b se_int)))
        (ss_asg (se_op sr_add (SimE.b se_int) (SimE.b (se_op sr_mul (SimE.b se_int) (SimE.b (se_op sr_ix sb_var (SimE.b se_int)))))) (sg_sub se_var (SimE.b se_int)))))))
        ss_next)
      (ss_seq (ss_asg (se_op sr_int0 (SimE.b (se_op sr_ix sb_var (SimE.b se_int))) (SimE.b se_int)) (sg_sub se_var (SimE.b se_int)))
      (ss_seq (ss_if (st_tst (SimE.b (se_op sr_eq (SimE.b (se_op sr_ix sb_var (SimE.b se_int))) (SimE.b se_int))))
        (ss_seq (ss_asg (se_op sr_mod (SimE.b (se_cb sc_int (sab_cons (SimE.b (se_op sr_ix sb_var (SimE.b se_int))) sab_nil))) sb_var) sg_name)
        (ss_seq (ss_asg (se_op sr_div (SimE.b (se_cb sc_int (sab_cons (SimE.b (se_op sr_ix sb_var (SimE.b se_int))) sab_nil))) sb_var) (sg_sub se_var (SimE.b se_int)))
        (ss_seq (ss_if (st_tst (SimE.b (se_op sr_eq (SimE.b (se_op sr_ix sb_var (SimE.b se_int))) (SimE.b se_int))))
          (ss_asg se_int (sg_sub se_var (SimE.b se_int)))
          ss_next)
        (ss_ret sb_var))))
        ss_next)
      (ss_seq (ss_asg (se_op sr_mod (SimE.b (se_cb sc_int (sab_cons (SimE.b (se_op sr_add (SimE.b (se_op sr_add (SimE.b (se_op sr_mul (SimE.b (se_cb sc_int (sab_cons (SimE.b (se_op sr_ix sb_var (SimE.b se_int))) sab_nil))) (SimE.b se_int))) (SimE.b (se_op sr_mul (SimE.b (se_op sr_ix sb_var (SimE.b se_int))) (SimE.b se_int))))) (SimE.b se_int))) sab_nil))) (SimE.b se_int)) sg_name)
      (ss_seq (ss_asg (se_op sr_mod (SimE.b (se_cb sc_int (sab_cons (SimE.b (se_op sr_add (SimE.b (se_op sr_add (SimE.b (se_op sr_mul sb_var (SimE.b se_int))) (SimE.b (se_op sr_mul (SimE.b (se_op sr_ix sb_var (SimE.b se_int))) (SimE.b se_int))))) (SimE.b se_int))) sab_nil))) (SimE.b se_int)) sg_name)
      (ss_ret (SimE.b (se_op sr_mod (SimE.b (se_cb sc_int (sab_cons sb_var sab_nil))) sb_var)))))))) h⟩
end
end T04

end
section
set_option Elab.async false
set_option linter.all false
set_option maxRecDepth 100000
set_option maxHeartbeats 4000000
namespace T04
open PySem PySem.Spec PyProof.Rows L2 Fu
open He (ga ma ba)
noncomputable section
variable {P : Program} {w : World} {K : PySem.W.Frag} {mg : Str → Option Value} {base : Heap}
def b_Ltruth (F_rec : Fn) : FS := (seqS (asgS (opF ixG (bvarF 0) (cF (.int 0))) (nameG 2))
      (seqS (ifS (tstF (opF (eqG id) (bvarF 2) (cF (.str "always"))))
        (retS (cF (.int 2)))
        nextS)
      (seqS (ifS (tstF (opF (eqG id) (bvarF 2) (cF (.str "not"))))
        (seqS (asgS (callN 2 F_rec (consA (opF ixG (bvarF 0) (cF (.int 1))) (consA (varF 1) nilA))) (nameG 3))
        (retS (ifF (tstF (opF (eqG id) (bvarF 3) (cF (.int 3)))) (cF (.int 3)) (opF subG (cF (.int 2)) (bvarF 3)))))
        nextS)
      (seqS (ifS (orT (tstF (opF (eqG id) (bvarF 2) (cF (.str "and")))) (tstF (opF (eqG id) (bvarF 2) (cF (.str "or")))))
        (seqS (asgS (ifF (tstF (opF (eqG id) (bvarF 2) (cF (.str "and")))) (cF (.int 0)) (cF (.int 2))) (nameG 4))
        (seqS (asgS (callN 2 F_rec (consA (opF ixG (bvarF 0) (cF (.int 1))) (consA (varF 1) nilA))) (nameG 5))
        (seqS (ifS (orT (tstF (opF (eqG id) (bvarF 5) (bvarF 4))) (tstF (opF (eqG id) (bvarF 5) (cF (.int 3)))))
          (retS (bvarF 5))
          nextS)
        (seqS (asgS (callN 2 F_rec (consA (opF ixG (bvarF 0) (cF (.int 2))) (consA (varF 1) nilA))) (nameG 6))
        (seqS (ifS (orT (tstF (opF (eqG id) (bvarF 6) (cF (.int 3)))) (tstF (opF (eqG id) (bvarF 6) (bvarF 4))))
          (retS (bvarF 6))
          nextS)
        (retS (ifF (orT (tstF (opF (eqG id) (bvarF 5) (cF (.int 1)))) (tstF (opF (eqG id) (bvarF 6) (cF (.int 1))))) (cF (.int 1)) (varF 6))))))))
        nextS)
      (seqS (asgS (opF ixG (bvarF 1) (opF ixG (bvarF 0) (cF (.int 1)))) (nameG 7))
      (seqS (ifS (tstF (opF (eqG id) (bvarF 2) (cF (.str "quotient"))))
        (seqS (asgS (opF ixG (bvarF 1) (opF ixG (bvarF 0) (cF (.int 2)))) (nameG 8))
        (seqS (ifS (tstF (opF (eqG id) (bvarF 8) (cF (.int 0))))
          (retS (cF (.int 3)))
          nextS)
        (seqS (ifS (orT (tstF (opF (isG id) (bvarF 7) (cF .non))) (tstF (opF (isG id) (bvarF 8) (cF .non))))
          (retS (cF (.int 1)))
          nextS)
        (retS (ifF (tstF (opF (eqG id) (opF divG (bvarF 7) (bvarF 8)) (opF ixG (bvarF 0) (cF (.int 3))))) (cF (.int 2)) (cF (.int 0)))))))
        nextS)
      (seqS (ifS (tstF (opF (eqG id) (bvarF 2) (cF (.str "unknown"))))
        (retS (ifF (tstF (opF (isG id) (bvarF 7) (cF .non))) (cF (.int 2)) (cF (.int 0))))
        nextS)
      (seqS (ifS (tstF (opF (isG id) (bvarF 7) (cF .non)))
        (retS (cF (.int 1)))
        nextS)
      (seqS (ifS (tstF (opF (eqG id) (bvarF 2) (cF (.str "equal"))))
        (retS (ifF (tstF (opF (eqG id) (bvarF 7) (opF ixG (bvarF 0) (cF (.int 2))))) (cF (.int 2)) (cF (.int 0))))
        nextS)
      (retS (ifF (tstF (opF ltG (bvarF 7) (opF ixG (bvarF 0) (cF (.int 2))))) (cF (.int 2)) (cF (.int 0)))))))))))))
def F_Ltruth : Nat → Fn
  | 0 => fun _ _ => .stuck
  | k + 1 => fnOf 9 (b_Ltruth (F_Ltruth k))
theorem ok_Ltruth (T : Txt K mg) : ∀ k, Hk.GOk P w K mg base (L2N.CX P w) (k + 1) "_law_truth" ["_law_condition_here", "_law_row"] (spF K 2 (F_Ltruth k))
  | 0 => go_zero T.g__law_truth T.f_Ltruth (fun _ _ _ _ _ _ us hl => match us, hl with | [_, _], _ => rfl) (fun vs H Q E h => spF_len h) (fun vs H Q E h => spF_zero h)
  | k + 1 => by
    have G := ok_Ltruth T k
    refine Hk.mkGX T.g__law_truth T.f_Ltruth (fun _ _ _ _ _ _ us hl => match us, hl with | [_, _], _ => rfl) sc_Ltruth (fun vs H Q E h => spF_len h) (fun cdv A outer s H vs Q E hr h => ?_)
    exact ⟨_, (pss_cons (ps_set (i := 2) sc_Ltruth.nd rfl (.inl rfl) (pe_ix ix_U (pv 0) pe_int (fun _ _ => rfl)))
      (pss_cons (ps_if (pt_cmpR (op_eqU hr.units) (pv 2) pe_str (nomark _))
        (pss_one (ps_ret pe_int))
        pss_nil)
      (pss_cons (ps_if (pt_cmpR (op_eqU hr.units) (pv 2) pe_str (nomark _))
        (pss_cons (ps_set (i := 3) sc_Ltruth.nd rfl (.inl rfl) (Hk.pe_g (G) (hr.mono (by omega)) (L2N.passes_call (L2N.takes_of rfl rfl rfl rfl) (fun _ _ _ _ h => h)) (pa_cons (pe_ix ix_U (pv 0) pe_int (fun _ _ => rfl)) (pa_cons (pv 1) pa_nil))))
        (pss_one (ps_ret (pe_ifExp (pt_cmpR (op_eqU hr.units) (pv 3) pe_int (nomark _)) pe_int (pe_op op_sub pe_int (pv 3))))))
        pss_nil)
      (pss_cons (ps_if (PW.pt (pw_or (pt_cmpR (op_eqU hr.units) (pv 2) pe_str (nomark _)) (pw_or1 (pt_cmpR (op_eqU hr.units) (pv 2) pe_str (nomark _)))))
        (pss_cons (ps_set (i := 4) sc_Ltruth.nd rfl (.inl rfl) (pe_ifExp (pt_cmpR (op_eqU hr.units) (pv 2) pe_str (nomark _)) pe_int pe_int))
        (pss_cons (ps_set (i := 5) sc_Ltruth.nd rfl (.inl rfl) (Hk.pe_g (G) (hr.mono (by omega)) (L2N.passes_call (L2N.takes_of rfl rfl rfl rfl) (fun _ _ _ _ h => h)) (pa_cons (pe_ix ix_U (pv 0) pe_int (fun _ _ => rfl)) (pa_cons (pv 1) pa_nil))))
        (pss_cons (ps_if (PW.pt (pw_or (pt_cmpR (op_eqU hr.units) (pv 5) (pv 4) (nomark _)) (pw_or1 (pt_cmpR (op_eqU hr.units) (pv 5) pe_int (nomark _)))))
          (pss_one (ps_ret (pv 5)))
          pss_nil)
        (pss_cons (ps_set (i := 6) sc_Ltruth.nd rfl (.inl rfl) (Hk.pe_g (G) (hr.mono (by omega)) (L2N.passes_call (L2N.takes_of rfl rfl rfl rfl) (fun _ _ _ _ h => h)) (pa_cons (pe_ix ix_U (pv 0) pe_int (fun _ _ => rfl)) (pa_cons (pv 1) pa_nil))))
        (pss_cons (ps_if (PW.pt (pw_or (pt_cmpR (op_eqU hr.units) (pv 6) pe_int (nomark _)) (pw_or1 (pt_cmpR (op_eqU hr.units) (pv 6) (pv 4) (nomark _)))))
          (pss_one (ps_ret (pv 6)))
          pss_nil)
        (pss_one (ps_ret (pe_ifExp (PW.pt (pw_or (pt_cmpR (op_eqU hr.units) (pv 5) pe_int (nomark _)) (pw_or1 (pt_cmpR (op_eqU hr.units) (pv 6) pe_int (nomark _))))) pe_int (pv 6)))))))))
        pss_nil)
      (pss_cons (ps_set (i := 7) sc_Ltruth.nd rfl (.inl rfl) (pe_ix ix_U (pv 1) (pe_ix ix_U (pv 0) pe_int (fun _ _ => rfl)) (fun _ _ => rfl)))
      (pss_cons (ps_if (pt_cmpR (op_eqU hr.units) (pv 2) pe_str (nomark _))
        (pss_cons (ps_set (i := 8) sc_Ltruth.nd rfl (.inl rfl) (pe_ix ix_U (pv 1) (pe_ix ix_U (pv 0) pe_int (fun _ _ => rfl)) (fun _ _ => rfl)))
        (pss_cons (ps_if (pt_cmpR (op_eqU hr.units) (pv 8) pe_int (nomark _))
          (pss_one (ps_ret pe_int))
          pss_nil)
        (pss_cons (ps_if (PW.pt (pw_or (pt_cmpR op_isU (pv 7) pe_non (nomark _)) (pw_or1 (pt_cmpR op_isU (pv 8) pe_non (nomark _)))))
          (pss_one (ps_ret pe_int))
          pss_nil)
        (pss_one (ps_ret (pe_ifExp (pt_cmpR (op_eqU hr.units) (pe_op op_fdivN (pv 7) (pv 8)) (pe_ix ix_U (pv 0) pe_int (fun _ _ => rfl)) (nomark _)) pe_int pe_int))))))
        pss_nil)
      (pss_cons (ps_if (pt_cmpR (op_eqU hr.units) (pv 2) pe_str (nomark _))
        (pss_one (ps_ret (pe_ifExp (pt_cmpR op_isU (pv 7) pe_non (nomark _)) pe_int pe_int)))
        pss_nil)
      (pss_cons (ps_if (pt_cmpR op_isU (pv 7) pe_non (nomark _))
        (pss_one (ps_ret pe_int))
        pss_nil)
      (pss_cons (ps_if (pt_cmpR (op_eqU hr.units) (pv 2) pe_str (nomark _))
        (pss_one (ps_ret (pe_ifExp (pt_cmpR (op_eqU hr.units) (pv 7) (pe_ix ix_U (pv 0) pe_int (fun _ _ => rfl)) (nomark _)) pe_int pe_int)))
        pss_nil)
      (pss_one (ps_ret (pe_ifExp (pt_cmpR op_lt (pv 7) (pe_ix ix_U (pv 0) pe_int (fun _ _ => rfl)) (nomark _)) pe_int pe_int)))))))))))), fn_go (N := ["_law_condition_here", "_law_row", "_law_word", "_law_part", "_law_stop", "_law_left", "_law_right", "_law_cell", "_law_lower"]) (ss_seq (ss_asg (se_op sr_ix sb_var (SimE.b se_int)) sg_name)
      (ss_seq (ss_if (st_tst (SimE.b (se_op sr_eq sb_var (SimE.b se_str))))
        (ss_ret (SimE.b se_int))
        ss_next)
      (ss_seq (ss_if (st_tst (SimE.b (se_op sr_eq sb_var (SimE.b se_str))))
        (ss_seq (ss_asg (se_call (sa_cons (se_op sr_ix sb_var (SimE.b se_int)) (sa_cons se_var sa_nil))) sg_name)
        (ss_ret (SimE.b (se_if (st_tst (SimE.b (se_op sr_eq sb_var (SimE.b se_int)))) se_int (se_op sr_int0 (SimE.b se_int) sb_var)))))
        ss_next)
      (ss_seq (ss_if (st_or (st_tst (SimE.b (se_op sr_eq sb_var (SimE.b se_str)))) (st_tst (SimE.b (se_op sr_eq sb_var (SimE.b se_str)))))
        (ss_seq (ss_asg (se_if (st_tst (SimE.b (se_op sr_eq sb_var (SimE.b se_str)))) se_int se_int) sg_name)
        (ss_seq (ss_asg (se_call (sa_cons (se_op sr_ix sb_var (SimE.b se_int)) (sa_cons se_var sa_nil))) sg_name)
        (ss_seq (ss_if (st_or (st_tst (SimE.b (se_op sr_eq sb_var sb_var))) (st_tst (SimE.b (se_op sr_eq sb_var (SimE.b se_int)))))
          (ss_ret sb_var)
          ss_next)
        (ss_seq (ss_asg (se_call (sa_cons (se_op sr_ix sb_var (SimE.b se_int)) (sa_cons se_var sa_nil))) sg_name)
        (ss_seq (ss_if (st_or (st_tst (SimE.b (se_op sr_eq sb_var (SimE.b se_int)))) (st_tst (SimE.b (se_op sr_eq sb_var sb_var))))
          (ss_ret sb_var)
          ss_next)
        (ss_ret (SimE.b (se_if (st_or (st_tst (SimE.b (se_op sr_eq sb_var (SimE.b se_int)))) (st_tst (SimE.b (se_op sr_eq sb_var (SimE.b se_int))))) se_int se_var))))))))
        ss_next)
      (ss_seq (ss_asg (se_op sr_ix sb_var (SimE.b (se_op sr_ix sb_var (SimE.b se_int)))) sg_name)
      (ss_seq (ss_if (st_tst (SimE.b (se_op sr_eq sb_var (SimE.b se_str))))
        (ss_seq (ss_asg (se_op sr_ix sb_var (SimE.b (se_op sr_ix sb_var (SimE.b se_int)))) sg_name)
        (ss_seq (ss_if (st_tst (SimE.b (se_op sr_eq sb_var (SimE.b se_int))))
          (ss_ret (SimE.b se_int))
          ss_next)
        (ss_seq (ss_if (st_or (st_tst (SimE.b (se_op sr_is sb_var (SimE.b se_non)))) (st_tst (SimE.b (se_op sr_is sb_var (SimE.b se_non)))))
          (ss_ret (SimE.b se_int))
          ss_next)
        (ss_ret (SimE.b (se_if (st_tst (SimE.b (se_op sr_eq (SimE.b (se_op sr_div sb_var sb_var)) (SimE.b (se_op sr_ix sb_var (SimE.b se_int)))))) se_int se_int))))))
        ss_next)
      (ss_seq (ss_if (st_tst (SimE.b (se_op sr_eq sb_var (SimE.b se_str))))
        (ss_ret (SimE.b (se_if (st_tst (SimE.b (se_op sr_is sb_var (SimE.b se_non)))) se_int se_int)))
        ss_next)
      (ss_seq (ss_if (st_tst (SimE.b (se_op sr_is sb_var (SimE.b se_non))))
        (ss_ret (SimE.b se_int))
        ss_next)
      (ss_seq (ss_if (st_tst (SimE.b (se_op sr_eq sb_var (SimE.b se_str))))
        (ss_ret (SimE.b (se_if (st_tst (SimE.b (se_op sr_eq sb_var (SimE.b (se_op sr_ix sb_var (SimE.b se_int)))))) se_int se_int)))
        ss_next)
      (ss_ret (SimE.b (se_if (st_tst (SimE.b (se_op sr_cmp sb_var (SimE.b (se_op sr_ix sb_var (SimE.b se_int)))))) se_int se_int)))))))))))) h⟩
end
end T04

end
section
set_option Elab.async false
set_option linter.all false
set_option maxRecDepth 100000
set_option maxHeartbeats 4000000
namespace T04
open PySem PySem.Spec PyProof.Rows L2 Fu
open He (ga ma ba)
noncomputable section
variable {P : Program} {w : World} {K : PySem.W.Frag} {mg : Str → Option Value} {base : Heap}
def b_every : FS := (seqS (asgS (valN (lstN nilA)) (nameG 0))
      (seqS (forS (anyI (valN (lstN (consA (cF .non) (consA (cF (.int 0)) (consA (cF (.int 1)) (consA (cF (.int 2)) nilA))))))) (nameG 1)
        (forS (anyI (valN (lstN (consA (cF .non) (consA (cF (.int 0)) (consA (cF (.int 1)) (consA (cF (.int 2)) nilA))))))) (nameG 2)
          (asgS (opF addG (bvarF 0) (valN (compN (anyI (valN (lstN (consA (cF .non) (consA (cF (.int 0)) (consA (cF (.int 1)) (consA (cF (.int 2)) nilA))))))) [3] (nameX 3) yesT (tupF (consA (varF 1) (consA (varF 2) (consA (varF 3) nilA))))))) (nameG 0))))
      (retS (bvarF 0))))
def F_every : Fn := fnOf 4 b_every
theorem ok_every (T : Txt K mg) : Hk.GOk P w K mg base (L2N.CX P w) 1 "_law_every" [] (spF K 0 F_every) := by
  refine Hk.mkGX T.g__law_every T.f_every (fun _ _ _ _ _ _ us hl => match us, hl with | [], _ => rfl) sc_every (fun vs H Q E h => spF_len h) (fun cdv A outer s H vs Q E hr h => ?_)
  exact ⟨_, (pss_cons (ps_set (i := 0) sc_every.nd rfl (.inl rfl) (pe_lst pa_nil))
      (pss_cons (ps_for (passes_of rfl) rfl (pi_any (pe_lst (pa_cons pe_non (pa_cons pe_int (pa_cons pe_int (pa_cons pe_int pa_nil)))))) (pg_name (i := 1) sc_every.nd rfl (.inr rfl))
        (pss_one (ps_for (passes_of rfl) rfl (pi_any (pe_lst (pa_cons pe_non (pa_cons pe_int (pa_cons pe_int (pa_cons pe_int pa_nil)))))) (pg_name (i := 2) sc_every.nd rfl (.inr rfl))
          (pss_one (ps_set (i := 0) sc_every.nd rfl (.inl rfl) (pe_op op_addU (pv 0) (pe_lc (own := [("_law_third", 3)]) rfl sc_every.nd (pi_any (pe_lst (pa_cons pe_non (pa_cons pe_int (pa_cons pe_int (pa_cons pe_int pa_nil)))))) (blkOk_by (own := [("_law_third", 3)]) (N := ["_law_rows", "_law_first", "_law_second_here", "_law_third"]) (sc := defScope s_every) (by decide +kernel)) (fun _ _ _ _ _ => pg_name (i := 3) sc_every.nd rfl (Or.inl rfl)) (fun _ _ _ _ _ => pts_nil) (fun _ _ _ _ _ => (pe_tup (pa_cons (pv 1) (pa_cons (pv 2) (pa_cons (pv 3) pa_nil))))))))))))
      (pss_one (ps_ret (pv 0))))), fn_go (N := ["_law_rows", "_law_first", "_law_second_here", "_law_third"]) (ss_seq (ss_asg (SimN.e (sn_lst sa_nil)) sg_name)
      (ss_seq (ss_for (si_any (SimN.e (sn_lst (sa_cons se_non (sa_cons se_int (sa_cons se_int (sa_cons se_int sa_nil))))))) sg_name
        (ss_for (si_any (SimN.e (sn_lst (sa_cons se_non (sa_cons se_int (sa_cons se_int (sa_cons se_int sa_nil))))))) sg_name
          (ss_asg (se_op sr_add sb_var (SimE.b (SimN.e (sn_lc (si_any (SimN.e (sn_lst (sa_cons se_non (sa_cons se_int (sa_cons se_int (sa_cons se_int sa_nil))))))) sx_name st_yes (se_tup (sa_cons se_var (sa_cons se_var (sa_cons se_var sa_nil)))))))) sg_name)))
      (ss_ret sb_var))) h⟩
end
end T04

end
section
set_option Elab.async false
set_option linter.all false
set_option maxRecDepth 100000
set_option maxHeartbeats 4000000
namespace T04
open PySem PySem.Spec PyProof.Rows L2 Fu
open He (ga ma ba)
noncomputable section
variable {P : Program} {w : World} {K : PySem.W.Frag} {mg : Str → Option Value} {base : Heap}
def b_Lalike (F_rec : Fn) : FS := (seqS (ifS (tstF (opF (isG id) (bvarF 1) (cF .non)))
        (retS (opF (isG id) (bvarF 0) (cF .non)))
        nextS)
      (seqS (ifS (orT (tstF (opF (isG id) (bvarF 1) (cF (.bl true)))) (tstF (opF (isG id) (bvarF 1) (cF (.bl false)))))
        (retS (andF (callB isiG (consA (bvarF 0) (consA (cF (.ty "bool")) nilA))) (opF (eqG id) (bvarF 0) (bvarF 1))))
        nextS)
      (seqS (ifS (tstF (callB isiG (consA (bvarF 1) (consA (cF (.ty "int")) nilA))))
        (retS (andF (callB isiG (consA (bvarF 0) (consA (cF (.ty "int")) nilA))) (andF (notF (callB isiG (consA (bvarF 0) (consA (cF (.ty "bool")) nilA)))) (opF (eqG id) (bvarF 0) (bvarF 1)))))
        nextS)
      (seqS (ifS (tstF (callB isiG (consA (bvarF 1) (consA (cF (.ty "str")) nilA))))
        (retS (andF (callB isiG (consA (bvarF 0) (consA (cF (.ty "str")) nilA))) (opF (eqG id) (bvarF 0) (bvarF 1))))
        nextS)
      (seqS (ifS (tstF (callB isiG (consA (bvarF 1) (consA (cF (.ty "tuple")) nilA))))
        (ifS (orT (notT (tstF (callB isiG (consA (bvarF 0) (consA (cF (.ty "tuple")) nilA))))) (tstF (opF (eqG not) (callB lenG (consA (bvarF 0) nilA)) (callB lenG (consA (bvarF 1) nilA)))))
          (retS (cF (.bl false)))
          nextS)
        (ifS (orT (notT (tstF (callB isiG (consA (bvarF 0) (consA (cF (.ty "list")) nilA))))) (tstF (opF (eqG not) (callB lenG (consA (bvarF 0) nilA)) (callB lenG (consA (bvarF 1) nilA)))))
          (retS (cF (.bl false)))
          nextS))
      (seqS (forS (range1I (consA (callB lenG (consA (bvarF 1) nilA)) nilA)) (nameG 2)
        (ifS (notT (tstF (callN 2 F_rec (consA (opF ixG (bvarF 0) (bvarF 2)) (consA (opF ixG (bvarF 1) (bvarF 2)) nilA)))))
          (retS (cF (.bl false)))
          nextS))
      (retS (cF (.bl true)))))))))
def F_Lalike : Nat → Fn
  | 0 => fun _ _ => .stuck
  | k + 1 => fnOf 3 (b_Lalike (F_Lalike k))
theorem ok_Lalike (T : Txt K mg) : ∀ k, Hk.GOk P w K mg base (L2N.CX P w) (k + 1) "_law_alike" ["_law_actual", "_law_due"] (spF K 2 (F_Lalike k))
  | 0 => go_zero T.g__law_alike T.f_Lalike (fun _ _ _ _ _ _ us hl => match us, hl with | [_, _], _ => rfl) (fun vs H Q E h => spF_len h) (fun vs H Q E h => spF_zero h)
  | k + 1 => by
    have G := ok_Lalike T k
    refine Hk.mkGX T.g__law_alike T.f_Lalike (fun _ _ _ _ _ _ us hl => match us, hl with | [_, _], _ => rfl) sc_Lalike (fun vs H Q E h => spF_len h) (fun cdv A outer s H vs Q E hr h => ?_)
    exact ⟨_, (pss_cons (ps_if (pt_cmpR op_isU (pv 1) pe_non (nomark _))
        (pss_one (ps_ret (pe_cmpR op_isU (pv 0) pe_non (nomark _))))
        pss_nil)
      (pss_cons (ps_if (PW.pt (pw_or (pt_cmpR op_isU (pv 1) pe_bl (nomark _)) (pw_or1 (pt_cmpR op_isU (pv 1) pe_bl (nomark _)))))
        (pss_one (ps_ret (pe_and (pe_callB call_isi (by rfl) T.z_isinstance (by decide +kernel) (pa_cons (pv 0) (pa_cons (pe_bltn (v := .ty "bool") (by rfl) T.z_bool (by decide +kernel) rfl) pa_nil))) (pe_one (pe_cmpR (op_eqU hr.units) (pv 0) (pv 1) (nomark _))))))
        pss_nil)
      (pss_cons (ps_if (pt_val (pe_callB call_isi (by rfl) T.z_isinstance (by decide +kernel) (pa_cons (pv 1) (pa_cons (pe_bltn (v := .ty "int") (by rfl) T.z_int (by decide +kernel) rfl) pa_nil))))
        (pss_one (ps_ret (pe_and (pe_callB call_isi (by rfl) T.z_isinstance (by decide +kernel) (pa_cons (pv 0) (pa_cons (pe_bltn (v := .ty "int") (by rfl) T.z_int (by decide +kernel) rfl) pa_nil))) (pe_and (pe_not (pe_callB call_isi (by rfl) T.z_isinstance (by decide +kernel) (pa_cons (pv 0) (pa_cons (pe_bltn (v := .ty "bool") (by rfl) T.z_bool (by decide +kernel) rfl) pa_nil)))) (pe_one (pe_cmpR (op_eqU hr.units) (pv 0) (pv 1) (nomark _)))))))
        pss_nil)
      (pss_cons (ps_if (pt_val (pe_callB call_isi (by rfl) T.z_isinstance (by decide +kernel) (pa_cons (pv 1) (pa_cons (pe_bltn (v := .ty "str") (by rfl) T.z_str (by decide +kernel) rfl) pa_nil))))
        (pss_one (ps_ret (pe_and (pe_callB call_isi (by rfl) T.z_isinstance (by decide +kernel) (pa_cons (pv 0) (pa_cons (pe_bltn (v := .ty "str") (by rfl) T.z_str (by decide +kernel) rfl) pa_nil))) (pe_one (pe_cmpR (op_eqU hr.units) (pv 0) (pv 1) (nomark _))))))
        pss_nil)
      (pss_cons (ps_if (pt_val (pe_callB call_isi (by rfl) T.z_isinstance (by decide +kernel) (pa_cons (pv 1) (pa_cons (pe_bltn (v := .ty "tuple") (by rfl) T.z_tuple (by decide +kernel) rfl) pa_nil))))
        (pss_one (ps_if (PW.pt (pw_or (pt_not (pt_val (pe_callB call_isi (by rfl) T.z_isinstance (by decide +kernel) (pa_cons (pv 0) (pa_cons (pe_bltn (v := .ty "tuple") (by rfl) T.z_tuple (by decide +kernel) rfl) pa_nil))))) (pw_or1 (pt_cmpR (op_neU hr.units) (pe_callB call_lenU (by rfl) T.z_len (by decide +kernel) (pa_cons (pv 0) pa_nil)) (pe_callB call_lenU (by rfl) T.z_len (by decide +kernel) (pa_cons (pv 1) pa_nil)) (nomark _)))))
          (pss_one (ps_ret pe_bl))
          pss_nil))
        (pss_one (ps_if (PW.pt (pw_or (pt_not (pt_val (pe_callB call_isi (by rfl) T.z_isinstance (by decide +kernel) (pa_cons (pv 0) (pa_cons (pe_bltn (v := .ty "list") (by rfl) T.z_list (by decide +kernel) rfl) pa_nil))))) (pw_or1 (pt_cmpR (op_neU hr.units) (pe_callB call_lenU (by rfl) T.z_len (by decide +kernel) (pa_cons (pv 0) pa_nil)) (pe_callB call_lenU (by rfl) T.z_len (by decide +kernel) (pa_cons (pv 1) pa_nil)) (nomark _)))))
          (pss_one (ps_ret pe_bl))
          pss_nil)))
      (pss_cons (ps_for (passes_of rfl) rfl (pi_range1 (by rfl) T.z_range (pa_cons (pe_callB call_lenU (by rfl) T.z_len (by decide +kernel) (pa_cons (pv 1) pa_nil)) pa_nil)) (pg_name (i := 2) sc_Lalike.nd rfl (.inl rfl))
        (pss_one (ps_if (pt_not (pt_val (Hk.pe_g (G) (hr.mono (by omega)) (L2N.passes_call (L2N.takes_of rfl rfl rfl rfl) (fun _ _ _ _ h => h)) (pa_cons (pe_ix ix_U (pv 0) (pv 2) (fun _ _ => rfl)) (pa_cons (pe_ix ix_U (pv 1) (pv 2) (fun _ _ => rfl)) pa_nil)))))
          (pss_one (ps_ret pe_bl))
          pss_nil)))
      (pss_one (ps_ret pe_bl)))))))), fn_go (N := ["_law_actual", "_law_due", "_law_k"]) (ss_seq (ss_if (st_tst (SimE.b (se_op sr_is sb_var (SimE.b se_non))))
        (ss_ret (SimE.b (se_op sr_is sb_var (SimE.b se_non))))
        ss_next)
      (ss_seq (ss_if (st_or (st_tst (SimE.b (se_op sr_is sb_var (SimE.b se_bl)))) (st_tst (SimE.b (se_op sr_is sb_var (SimE.b se_bl)))))
        (ss_ret (SimE.b (se_and (SimE.b (se_cb sc_isi (sab_cons sb_var (sab_cons (SimE.b se_ty) sab_nil)))) (se_op sr_eq sb_var sb_var))))
        ss_next)
      (ss_seq (ss_if (st_tB (SimE.b (se_cb sc_isi (sab_cons sb_var (sab_cons (SimE.b se_ty) sab_nil)))))
        (ss_ret (SimE.b (se_and (SimE.b (se_cb sc_isi (sab_cons sb_var (sab_cons (SimE.b se_ty) sab_nil)))) (se_and (SimE.b (se_not (SimE.b (se_cb sc_isi (sab_cons sb_var (sab_cons (SimE.b se_ty) sab_nil)))))) (se_op sr_eq sb_var sb_var)))))
        ss_next)
      (ss_seq (ss_if (st_tB (SimE.b (se_cb sc_isi (sab_cons sb_var (sab_cons (SimE.b se_ty) sab_nil)))))
        (ss_ret (SimE.b (se_and (SimE.b (se_cb sc_isi (sab_cons sb_var (sab_cons (SimE.b se_ty) sab_nil)))) (se_op sr_eq sb_var sb_var))))
        ss_next)
      (ss_seq (ss_if (st_tB (SimE.b (se_cb sc_isi (sab_cons sb_var (sab_cons (SimE.b se_ty) sab_nil)))))
        (ss_if (st_or (st_not (st_tB (SimE.b (se_cb sc_isi (sab_cons sb_var (sab_cons (SimE.b se_ty) sab_nil)))))) (st_tst (SimE.b (se_op sr_ne (SimE.b (se_cb sc_len (sab_cons sb_var sab_nil))) (SimE.b (se_cb sc_len (sab_cons sb_var sab_nil)))))))
          (ss_ret (SimE.b se_bl))
          ss_next)
        (ss_if (st_or (st_not (st_tB (SimE.b (se_cb sc_isi (sab_cons sb_var (sab_cons (SimE.b se_ty) sab_nil)))))) (st_tst (SimE.b (se_op sr_ne (SimE.b (se_cb sc_len (sab_cons sb_var sab_nil))) (SimE.b (se_cb sc_len (sab_cons sb_var sab_nil)))))))
          (ss_ret (SimE.b se_bl))
          ss_next))
      (ss_seq (ss_for (si_range1 (sab_cons (SimE.b (se_cb sc_len (sab_cons sb_var sab_nil))) sab_nil)) sg_name
        (ss_if (st_not (st_tB (SimE.b (se_call (sa_cons (se_op sr_ix sb_var sb_var) (sa_cons (se_op sr_ix sb_var sb_var) sa_nil))))))
          (ss_ret (SimE.b se_bl))
          ss_next))
      (ss_ret (SimE.b se_bl)))))))) h⟩
end
end T04

end
section
set_option Elab.async false
set_option linter.all false
set_option maxRecDepth 100000
set_option maxHeartbeats 4000000
namespace T04
open PySem PySem.Spec PyProof.Rows L2 Fu
open He (ga ma ba)
noncomputable section
variable {P : Program} {w : World} {K : PySem.W.Frag} {mg : Str → Option Value} {base : Heap}
def b_condition (F_rec : Fn) : FS := (seqS (asgS (callN 2 F_draw (consA (varF 0) (consA (cF (.int 6)) nilA))) (nameG 3))
      (seqS (ifS (andT (tstF (opF gtG (bvarF 1) (cF (.int 1)))) (tstF (opF ltG (bvarF 3) (cF (.int 2)))))
        (seqS (asgS (opF ixG (tupF (consA (cF (.str "and")) (consA (cF (.str "or")) nilA))) (bvarF 3)) (nameG 3))
        (retS (tupF (consA (varF 3) (consA (callN 3 F_rec (consA (varF 0) (consA (opF subG (bvarF 1) (cF (.int 1))) (consA (varF 2) nilA)))) (consA (callN 3 F_rec (consA (varF 0) (consA (opF subG (bvarF 1) (cF (.int 1))) (consA (varF 2) nilA)))) nilA))))))
        nextS)
      (seqS (ifS (andT (tstF (opF gtG (bvarF 1) (cF (.int 1)))) (tstF (opF (eqG id) (bvarF 3) (cF (.int 2)))))
        (retS (tupF (consA (cF (.str "not")) (consA (callN 3 F_rec (consA (varF 0) (consA (opF subG (bvarF 1) (cF (.int 1))) (consA (varF 2) nilA)))) nilA))))
        nextS)
      (seqS (asgS (callN 2 F_draw (consA (varF 0) (consA (cF (.int 3)) nilA))) (nameG 4))
      (seqS (asgS (callN 2 F_draw (consA (varF 0) (consA (opF addG (cF (.int 8)) (opF mulG (cF (.int 3)) (bvarF 2))) nilA))) (nameG 3))
      (seqS (ifS (tstF (opF ltG (bvarF 3) (cF (.int 4))))
        (retS (tupF (consA (cF (.str "equal")) (consA (varF 4) (consA (callN 2 F_draw (consA (varF 0) (consA (cF (.int 3)) nilA))) nilA)))))
        nextS)
      (seqS (ifS (tstF (opF (eqG id) (bvarF 3) (cF (.int 4))))
        (retS (tupF (consA (cF (.str "below")) (consA (varF 4) (consA (callN 2 F_draw (consA (varF 0) (consA (cF (.int 3)) nilA))) nilA)))))
        nextS)
      (seqS (ifS (tstF (opF ltG (bvarF 3) (cF (.int 7))))
        (retS (tupF (consA (cF (.str "unknown")) (consA (varF 4) nilA))))
        nextS)
      (seqS (ifS (tstF (opF (eqG id) (bvarF 3) (cF (.int 7))))
        (retS (tupF (consA (cF (.str "always")) nilA)))
        nextS)
      (retS (tupF (consA (cF (.str "quotient")) (consA (varF 4) (consA (callN 2 F_draw (consA (varF 0) (consA (cF (.int 3)) nilA))) (consA (callN 2 F_draw (consA (varF 0) (consA (cF (.int 3)) nilA))) nilA)))))))))))))))
def F_condition : Nat → Fn
  | 0 => fun _ _ => .stuck
  | k + 1 => fnOf 5 (b_condition (F_condition k))
theorem ok_condition (T : Txt K mg) : ∀ k, Hk.GOk P w K mg base (L2N.CX P w) (k + 2) "_law_condition" ["_law_box_here", "_law_levels", "_law_errs"] (spF K 3 (F_condition k))
  | 0 => go_zero T.g__law_condition T.f_condition (fun _ _ _ _ _ _ us hl => match us, hl with | [_, _, _], _ => rfl) (fun vs H Q E h => spF_len h) (fun vs H Q E h => spF_zero h)
  | k + 1 => by
    have G := ok_condition T k
    refine Hk.mkGX T.g__law_condition T.f_condition (fun _ _ _ _ _ _ us hl => match us, hl with | [_, _, _], _ => rfl) sc_condition (fun vs H Q E h => spF_len h) (fun cdv A outer s H vs Q E hr h => ?_)
    exact ⟨_, (pss_cons (ps_set (i := 3) sc_condition.nd rfl (.inl rfl) (Hk.pe_g (ok_draw T) (hr.mono (by omega)) (L2N.passes_call (L2N.takes_of rfl rfl rfl rfl) (fun _ _ _ _ h => h)) (pa_cons (pv 0) (pa_cons pe_int pa_nil))))
      (pss_cons (ps_if (PW.pt (pw_and (pt_cmpR op_gt (pv 1) pe_int (nomark _)) (pw_and1 (pt_cmpR op_lt (pv 3) pe_int (nomark _)))))
        (pss_cons (ps_set (i := 3) sc_condition.nd rfl (.inl rfl) (pe_ix ix_U (pe_tup (pa_cons pe_str (pa_cons pe_str pa_nil))) (pv 3) (fun _ _ => rfl)))
        (pss_one (ps_ret (pe_tup (pa_cons (pv 3) (pa_cons (Hk.pe_g (G) (hr.mono (by omega)) (L2N.passes_call (L2N.takes_of rfl rfl rfl rfl) (fun _ _ _ _ h => h)) (pa_cons (pv 0) (pa_cons (pe_op op_sub (pv 1) pe_int) (pa_cons (pv 2) pa_nil)))) (pa_cons (Hk.pe_g (G) (hr.mono (by omega)) (L2N.passes_call (L2N.takes_of rfl rfl rfl rfl) (fun _ _ _ _ h => h)) (pa_cons (pv 0) (pa_cons (pe_op op_sub (pv 1) pe_int) (pa_cons (pv 2) pa_nil)))) pa_nil)))))))
        pss_nil)
      (pss_cons (ps_if (PW.pt (pw_and (pt_cmpR op_gt (pv 1) pe_int (nomark _)) (pw_and1 (pt_cmpR (op_eqU hr.units) (pv 3) pe_int (nomark _)))))
        (pss_one (ps_ret (pe_tup (pa_cons pe_str (pa_cons (Hk.pe_g (G) (hr.mono (by omega)) (L2N.passes_call (L2N.takes_of rfl rfl rfl rfl) (fun _ _ _ _ h => h)) (pa_cons (pv 0) (pa_cons (pe_op op_sub (pv 1) pe_int) (pa_cons (pv 2) pa_nil)))) pa_nil)))))
        pss_nil)
      (pss_cons (ps_set (i := 4) sc_condition.nd rfl (.inl rfl) (Hk.pe_g (ok_draw T) (hr.mono (by omega)) (L2N.passes_call (L2N.takes_of rfl rfl rfl rfl) (fun _ _ _ _ h => h)) (pa_cons (pv 0) (pa_cons pe_int pa_nil))))
      (pss_cons (ps_set (i := 3) sc_condition.nd rfl (.inl rfl) (Hk.pe_g (ok_draw T) (hr.mono (by omega)) (L2N.passes_call (L2N.takes_of rfl rfl rfl rfl) (fun _ _ _ _ h => h)) (pa_cons (pv 0) (pa_cons (pe_op op_addU pe_int (pe_op op_mul pe_int (pv 2))) pa_nil))))
      (pss_cons (ps_if (pt_cmpR op_lt (pv 3) pe_int (nomark _))
        (pss_one (ps_ret (pe_tup (pa_cons pe_str (pa_cons (pv 4) (pa_cons (Hk.pe_g (ok_draw T) (hr.mono (by omega)) (L2N.passes_call (L2N.takes_of rfl rfl rfl rfl) (fun _ _ _ _ h => h)) (pa_cons (pv 0) (pa_cons pe_int pa_nil))) pa_nil))))))
        pss_nil)
      (pss_cons (ps_if (pt_cmpR (op_eqU hr.units) (pv 3) pe_int (nomark _))
        (pss_one (ps_ret (pe_tup (pa_cons pe_str (pa_cons (pv 4) (pa_cons (Hk.pe_g (ok_draw T) (hr.mono (by omega)) (L2N.passes_call (L2N.takes_of rfl rfl rfl rfl) (fun _ _ _ _ h => h)) (pa_cons (pv 0) (pa_cons pe_int pa_nil))) pa_nil))))))
        pss_nil)
      (pss_cons (ps_if (pt_cmpR op_lt (pv 3) pe_int (nomark _))
        (pss_one (ps_ret (pe_tup (pa_cons pe_str (pa_cons (pv 4) pa_nil)))))
        pss_nil)
      (pss_cons (ps_if (pt_cmpR (op_eqU hr.units) (pv 3) pe_int (nomark _))
        (pss_one (ps_ret (pe_tup (pa_cons pe_str pa_nil))))
        pss_nil)
      (pss_one (ps_ret (pe_tup (pa_cons pe_str (pa_cons (pv 4) (pa_cons (Hk.pe_g (ok_draw T) (hr.mono (by omega)) (L2N.passes_call (L2N.takes_of rfl rfl rfl rfl) (fun _ _ _ _ h => h)) (pa_cons (pv 0) (pa_cons pe_int pa_nil))) (pa_cons (Hk.pe_g (ok_draw T) (hr.mono (by omega)) (L2N.passes_call (L2N.takes_of rfl rfl rfl rfl) (fun _ _ _ _ h => h)) (pa_cons (pv 0) (pa_cons pe_int pa_nil))) pa_nil)))))))))))))))), fn_go (N := ["_law_box_here", "_law_levels", "_law_errs", "_law_word", "_law_column"]) (ss_seq (ss_asg (se_call (sa_cons se_var (sa_cons se_int sa_nil))) sg_name)
      (ss_seq (ss_if (st_and (st_tst (SimE.b (se_op sr_cmp sb_var (SimE.b se_int)))) (st_tst (SimE.b (se_op sr_cmp sb_var (SimE.b se_int)))))
        (ss_seq (ss_asg (se_op sr_ix (SimE.b (se_tup (sa_cons se_str (sa_cons se_str sa_nil)))) sb_var) sg_name)
        (ss_ret (SimE.b (se_tup (sa_cons se_var (sa_cons (se_call (sa_cons se_var (sa_cons (se_op sr_int0 sb_var (SimE.b se_int)) (sa_cons se_var sa_nil)))) (sa_cons (se_call (sa_cons se_var (sa_cons (se_op sr_int0 sb_var (SimE.b se_int)) (sa_cons se_var sa_nil)))) sa_nil)))))))
        ss_next)
      (ss_seq (ss_if (st_and (st_tst (SimE.b (se_op sr_cmp sb_var (SimE.b se_int)))) (st_tst (SimE.b (se_op sr_eq sb_var (SimE.b se_int)))))
        (ss_ret (SimE.b (se_tup (sa_cons se_str (sa_cons (se_call (sa_cons se_var (sa_cons (se_op sr_int0 sb_var (SimE.b se_int)) (sa_cons se_var sa_nil)))) sa_nil)))))
        ss_next)
      (ss_seq (ss_asg (se_call (sa_cons se_var (sa_cons se_int sa_nil))) sg_name)
      (ss_seq (ss_asg (se_call (sa_cons se_var (sa_cons (se_op sr_add (SimE.b se_int) (SimE.b (se_op sr_mul (SimE.b se_int) sb_var))) sa_nil))) sg_name)
      (ss_seq (ss_if (st_tst (SimE.b (se_op sr_cmp sb_var (SimE.b se_int))))
        (ss_ret (SimE.b (se_tup (sa_cons se_str (sa_cons se_var (sa_cons (se_call (sa_cons se_var (sa_cons se_int sa_nil))) sa_nil))))))
        ss_next)
      (ss_seq (ss_if (st_tst (SimE.b (se_op sr_eq sb_var (SimE.b se_int))))
        (ss_ret (SimE.b (se_tup (sa_cons se_str (sa_cons se_var (sa_cons (se_call (sa_cons se_var (sa_cons se_int sa_nil))) sa_nil))))))
        ss_next)
      (ss_seq (ss_if (st_tst (SimE.b (se_op sr_cmp sb_var (SimE.b se_int))))
        (ss_ret (SimE.b (se_tup (sa_cons se_str (sa_cons se_var sa_nil)))))
        ss_next)
      (ss_seq (ss_if (st_tst (SimE.b (se_op sr_eq sb_var (SimE.b se_int))))
        (ss_ret (SimE.b (se_tup (sa_cons se_str sa_nil))))
        ss_next)
      (ss_ret (SimE.b (se_tup (sa_cons se_str (sa_cons se_var (sa_cons (se_call (sa_cons se_var (sa_cons se_int sa_nil))) (sa_cons (se_call (sa_cons se_var (sa_cons se_int sa_nil))) sa_nil)))))))))))))))) h⟩
end
end T04

end
section
set_option Elab.async false
set_option linter.all false
set_option maxRecDepth 100000
set_option maxHeartbeats 4000000
namespace T04
open PySem PySem.Spec PyProof.Rows L2 Fu
open He (ga ma ba)
noncomputable section
variable {P : Program} {w : World} {K : PySem.W.Frag} {mg : Str → Option Value} {base : Heap}
def b_Lescape : FS := (seqS (asgS (callN 0 F_every nilA) (nameG 2))
      (seqS (forS (range1I (consA (cF (.int 64)) nilA)) (nameG 3)
        (ifS (andT (tstF (opF gtG (opF ixG (bvarF 0) (bvarF 3)) (cF (.int 1)))) (tstF (opF (eqG not) (opF ixG (bvarF 1) (bvarF 3)) (cF (.int 2)))))
          (retS (opF ixG (bvarF 2) (bvarF 3)))
          nextS))
      (retS (cF .non))))
def F_Lescape : Fn := fnOf 4 b_Lescape
theorem ok_Lescape (T : Txt K mg) : Hk.GOk P w K mg base (L2N.CX P w) 2 "_law_escape" ["_law_codes_here", "_law_others"] (spF K 2 F_Lescape) := by
  refine Hk.mkGX T.g__law_escape T.f_Lescape (fun _ _ _ _ _ _ us hl => match us, hl with | [_, _], _ => rfl) sc_Lescape (fun vs H Q E h => spF_len h) (fun cdv A outer s H vs Q E hr h => ?_)
  exact ⟨_, (pss_cons (ps_set (i := 2) sc_Lescape.nd rfl (.inl rfl) (Hk.pe_g0 (ok_every T) (hr.mono (by decide)) (L2N.passes_call (L2N.takes_of rfl rfl rfl rfl) (fun _ _ _ _ h => h))))
      (pss_cons (ps_for (passes_of rfl) rfl (pi_range1 (by rfl) T.z_range (pa_cons pe_int pa_nil)) (pg_name (i := 3) sc_Lescape.nd rfl (.inl rfl))
        (pss_one (ps_if (PW.pt (pw_and (pt_cmpR op_gt (pe_ix ix_U (pv 0) (pv 3) (fun _ _ => rfl)) pe_int (nomark _)) (pw_and1 (pt_cmpR (op_neU hr.units) (pe_ix ix_U (pv 1) (pv 3) (fun _ _ => rfl)) pe_int (nomark _)))))
          (pss_one (ps_ret (pe_ix ix_U (pv 2) (pv 3) (fun _ _ => rfl))))
          pss_nil)))
      (pss_one (ps_ret pe_non)))), fn_go (N := ["_law_codes_here", "_law_others", "_law_every_here", "_law_k"]) (ss_seq (ss_asg (se_call sa_nil) sg_name)
      (ss_seq (ss_for (si_range1 (sab_cons (SimE.b se_int) sab_nil)) sg_name
        (ss_if (st_and (st_tst (SimE.b (se_op sr_cmp (SimE.b (se_op sr_ix sb_var sb_var)) (SimE.b se_int)))) (st_tst (SimE.b (se_op sr_ne (SimE.b (se_op sr_ix sb_var sb_var)) (SimE.b se_int)))))
          (ss_ret (SimE.b (se_op sr_ix sb_var sb_var)))
          ss_next))
      (ss_ret (SimE.b se_non)))) h⟩
end
end T04

end
section
set_option Elab.async false
set_option linter.all false
set_option maxRecDepth 100000
set_option maxHeartbeats 4000000
namespace T04
open PySem PySem.Spec PyProof.Rows L2 Fu
open He (ga ma ba)
noncomputable section
variable {P : Program} {w : World} {K : PySem.W.Frag} {mg : Str → Option Value} {base : Heap}
def b_Truth_of : FS := (seqS (ifS (tstF (opF (isG id) (bvarF 0) (cF .non)))
        (retS (mkF "Truth" 2 F_Truth_init (consA (cF (.int 1)) nilA)))
        nextS)
      (retS (mkF "Truth" 2 F_Truth_init (consA (ifF (tstF (bvarF 0)) (cF (.int 2)) (cF (.int 0))) nilA))))
def F_Truth_of : Fn := fnOf 1 b_Truth_of
theorem ok_Truth_of (T : Txt K mg) : Hk.AOk P w K mg base (L2N.CX P w) 3 (Hk.sg K "Truth" "of") ["value"] (spF K 1 F_Truth_of) := by
  refine Hk.mkAX T.f_Truth_of (fun _ _ _ _ _ _ us hl => match us, hl with | [_], _ => rfl) sc_Truth_of (fun vs H Q E h => spF_len h) (fun cdv A outer s H vs Q E hr h => ?_)
  exact ⟨_, (pss_cons (ps_if (pt_cmpR op_isU (pv 0) pe_non (nomark _))
        (pss_one (ps_ret (Hk.pe_mk T.mk_Truth (ok_Truth_init T) T.g_Truth (hr.mono (by decide)) (L2N.passes_call (L2N.takes_of rfl rfl rfl rfl) (fun _ _ _ _ h => h)) (pa_cons pe_int pa_nil))))
        pss_nil)
      (pss_one (ps_ret (Hk.pe_mk T.mk_Truth (ok_Truth_init T) T.g_Truth (hr.mono (by decide)) (L2N.passes_call (L2N.takes_of rfl rfl rfl rfl) (fun _ _ _ _ h => h)) (pa_cons (pe_ifExp (pt_val (pv 0)) pe_int pe_int) pa_nil))))), fn_go (N := ["value"]) (ss_seq (ss_if (st_tst (SimE.b (se_op sr_is sb_var (SimE.b se_non))))
        (ss_ret (SimE.b (se_mk (sa_cons se_int sa_nil))))
        ss_next)
      (ss_ret (SimE.b (se_mk (sa_cons (se_if (st_tB sb_var) se_int se_int) sa_nil))))) h⟩
end
end T04

end
section
set_option Elab.async false
set_option linter.all false
set_option maxRecDepth 100000
set_option maxHeartbeats 4000000
namespace T04
open PySem PySem.Spec PyProof.Rows L2 Fu
open He (ga ma ba)
noncomputable section
variable {P : Program} {w : World} {K : PySem.W.Frag} {mg : Str → Option Value} {base : Heap}
def b_Truth_invert : FS := (retS (mkF "Truth" 2 F_Truth_init (consA (opF subG (cF (.int 2)) (fldF "Truth" "rank" (varF 0))) nilA)))
def F_Truth_invert : Fn := fnOf 1 b_Truth_invert
theorem ok_Truth_invert (T : Txt K mg) : Hk.AOk P w K mg base (L2N.CX P w) 3 (Hk.mt K "Truth" "__invert__") ["self"] (spF K 1 F_Truth_invert) := by
  refine Hk.mkAX T.f_Truth_invert (fun _ _ _ _ _ _ us hl => match us, hl with | [_], _ => rfl) sc_Truth_invert (fun vs H Q E h => spF_len h) (fun cdv A outer s H vs Q E hr h => ?_)
  exact ⟨_, (pss_one (ps_ret (Hk.pe_mk T.mk_Truth (ok_Truth_init T) T.g_Truth (hr.mono (by decide)) (L2N.passes_call (L2N.takes_of rfl rfl rfl rfl) (fun _ _ _ _ h => h)) (pa_cons (pe_op op_sub pe_int (pe_fld (pv 0) rfl)) pa_nil)))), fn_go (N := ["self"]) (ss_ret (SimE.b (se_mk (sa_cons (se_op sr_int0 (SimE.b se_int) (SimE.b (se_fld T.cl_Truth T.n_Truth_rank se_var))) sa_nil)))) h⟩
end
end T04

end
section
set_option Elab.async false
set_option linter.all false
set_option maxRecDepth 100000
set_option maxHeartbeats 4000000
namespace T04
open PySem PySem.Spec PyProof.Rows L2 Fu
open He (ga ma ba)
noncomputable section
variable {P : Program} {w : World} {K : PySem.W.Frag} {mg : Str → Option Value} {base : Heap}
def b_quotient_value : FS := (seqS (ifS (tstF (opF (eqG id) (bvarF 1) (cF (.int 0))))
        (raiseS "ZeroDivisor" 0 (initF 1 0 fx_ZeroDivisor) nilA)
        nextS)
      (seqS (ifS (orT (tstF (opF (isG id) (bvarF 0) (cF .non))) (tstF (opF (isG id) (bvarF 1) (cF .non))))
        (retS (cF .non))
        nextS)
      (retS (opF (eqG id) (opF divG (bvarF 0) (bvarF 1)) (bvarF 2)))))
def F_quotient_value : Fn := fnOf 3 b_quotient_value
theorem ok_quotient_value (T : Txt K mg) : Hk.GOk P w K mg base (L2N.CX P w) 3 "_quotient_value" ["dividend", "divisor", "value"] (spF K 3 F_quotient_value) := by
  refine Hk.mkGX T.g__quotient_value T.f_quotient_value (fun _ _ _ _ _ _ us hl => match us, hl with | [_, _, _], _ => rfl) sc_quotient_value (fun vs H Q E h => spF_len h) (fun cdv A outer s H vs Q E hr h => ?_)
  exact ⟨_, (pss_cons (ps_if (pt_cmpR (op_eqU hr.units) (pv 1) pe_int (nomark _))
        (pss_one (ps_raiseW rfl (L2N.takes_of rfl rfl rfl rfl) (Hk.pmkN_x0 T.oe_ZeroDivisor T.xi_ZeroDivisor (ok_ZeroDivisor_init T) (hr.mono (by decide)) passN0 T.g_ZeroDivisor)))
        pss_nil)
      (pss_cons (ps_if (PW.pt (pw_or (pt_cmpR op_isU (pv 0) pe_non (nomark _)) (pw_or1 (pt_cmpR op_isU (pv 1) pe_non (nomark _)))))
        (pss_one (ps_ret pe_non))
        pss_nil)
      (pss_one (ps_ret (pe_cmpR (op_eqU hr.units) (pe_op op_fdivN (pv 0) (pv 1)) (pv 2) (nomark _)))))), fn_go (N := ["dividend", "divisor", "value"]) (ss_seq (ss_if (st_tst (SimE.b (se_op sr_eq sb_var (SimE.b se_int))))
        ss_raise0
        ss_next)
      (ss_seq (ss_if (st_or (st_tst (SimE.b (se_op sr_is sb_var (SimE.b se_non)))) (st_tst (SimE.b (se_op sr_is sb_var (SimE.b se_non)))))
        (ss_ret (SimE.b se_non))
        ss_next)
      (ss_ret (SimE.b (se_op sr_eq (SimE.b (se_op sr_div sb_var sb_var)) sb_var))))) h⟩
end
end T04

end
section
set_option Elab.async false
set_option linter.all false
set_option maxRecDepth 100000
set_option maxHeartbeats 4000000
namespace T04
open PySem PySem.Spec PyProof.Rows L2 Fu
open He (ga ma ba)
noncomputable section
variable {P : Program} {w : World} {K : PySem.W.Frag} {mg : Str → Option Value} {base : Heap}
def b_Truth_xor : FS := (seqS (ifS (orT (tstF (opF (isG id) (propF "Truth" F_Truth_value (varF 0)) (cF .non))) (tstF (opF (isG id) (propF "Truth" F_Truth_value (varF 1)) (cF .non))))
        (retS (mkF "Truth" 2 F_Truth_init (consA (cF (.int 1)) nilA)))
        nextS)
      (retS (statF 1 F_Truth_of (consA (opF (eqG not) (fldF "Truth" "rank" (varF 0)) (fldF "Truth" "rank" (varF 1))) nilA))))
def F_Truth_xor : Fn := fnOf 2 b_Truth_xor
theorem ok_Truth_xor (T : Txt K mg) : Hk.AOk P w K mg base (L2N.CX P w) 4 (Hk.mt K "Truth" "__xor__") ["self", "other"] (spF K 2 F_Truth_xor) := by
  refine Hk.mkAX T.f_Truth_xor (fun _ _ _ _ _ _ us hl => match us, hl with | [_, _], _ => rfl) sc_Truth_xor (fun vs H Q E h => spF_len h) (fun cdv A outer s H vs Q E hr h => ?_)
  exact ⟨_, (pss_cons (ps_if (PW.pt (pw_or (pt_cmpR op_isU (Hk.pe_p (ok_Truth_value T) T.cl_Truth T.p_Truth_value (hr.mono (by decide)) passN0 (pv 0)) pe_non (nomark _)) (pw_or1 (pt_cmpR op_isU (Hk.pe_p (ok_Truth_value T) T.cl_Truth T.p_Truth_value (hr.mono (by decide)) passN0 (pv 1)) pe_non (nomark _)))))
        (pss_one (ps_ret (Hk.pe_mk T.mk_Truth (ok_Truth_init T) T.g_Truth (hr.mono (by decide)) (L2N.passes_call (L2N.takes_of rfl rfl rfl rfl) (fun _ _ _ _ h => h)) (pa_cons pe_int pa_nil))))
        pss_nil)
      (pss_one (ps_ret (Hk.pe_s (ok_Truth_of T) T.r_Truth T.st_Truth_of (hr.mono (by decide)) (L2N.passes_call (L2N.takes_of rfl rfl rfl rfl) (fun _ _ _ _ h => h)) (pe_glob (v := .ref (ga K "Truth")) (by rfl) T.g_Truth rfl) (pa_cons (pe_cmpR (op_neU hr.units) (pe_fld (pv 0) rfl) (pe_fld (pv 1) rfl) (nomark _)) pa_nil))))), fn_go (N := ["self", "other"]) (ss_seq (ss_if (st_or (st_tst (SimE.b (se_op sr_is (SimE.b (se_prop se_var)) (SimE.b se_non)))) (st_tst (SimE.b (se_op sr_is (SimE.b (se_prop se_var)) (SimE.b se_non)))))
        (ss_ret (SimE.b (se_mk (sa_cons se_int sa_nil))))
        ss_next)
      (ss_ret (SimE.b (se_stat se_con (sa_cons (se_op sr_ne (SimE.b (se_fld T.cl_Truth T.n_Truth_rank se_var)) (SimE.b (se_fld T.cl_Truth T.n_Truth_rank se_var))) sa_nil))))) h⟩
end
end T04

end
section
set_option Elab.async false
set_option linter.all false
set_option maxRecDepth 100000
set_option maxHeartbeats 4000000
namespace T04
open PySem PySem.Spec PyProof.Rows L2 Fu
open He (ga ma ba)
noncomputable section
variable {P : Program} {w : World} {K : PySem.W.Frag} {mg : Str → Option Value} {base : Heap}
def b_simple_value : FS := (seqS (asgS (opF ixG (bvarF 0) (cF (.int 0))) (nameG 2))
      (seqS (ifS (tstF (opF (eqG id) (bvarF 2) (cF (.str "always"))))
        (retS (cF (.bl true)))
        nextS)
      (seqS (asgS (opF ixG (bvarF 1) (opF ixG (bvarF 0) (cF (.int 1)))) (nameG 3))
      (seqS (ifS (tstF (opF (eqG id) (bvarF 2) (cF (.str "unknown"))))
        (retS (opF (isG id) (bvarF 3) (cF .non)))
        nextS)
      (seqS (ifS (tstF (opF (eqG id) (bvarF 2) (cF (.str "quotient"))))
        (retS (callN 3 F_quotient_value (consA (varF 3) (consA (opF ixG (bvarF 1) (opF ixG (bvarF 0) (cF (.int 2)))) (consA (opF ixG (bvarF 0) (cF (.int 3))) nilA)))))
        nextS)
      (seqS (ifS (tstF (opF (isG id) (bvarF 3) (cF .non)))
        (retS (cF .non))
        nextS)
      (retS (ifF (tstF (opF (eqG id) (bvarF 2) (cF (.str "equal")))) (opF (eqG id) (bvarF 3) (opF ixG (bvarF 0) (cF (.int 2)))) (opF ltG (bvarF 3) (opF ixG (bvarF 0) (cF (.int 2))))))))))))
def F_simple_value : Fn := fnOf 4 b_simple_value
theorem ok_simple_value (T : Txt K mg) : Hk.GOk P w K mg base (L2N.CX P w) 4 "_simple_value" ["condition", "row"] (spF K 2 F_simple_value) := by
  refine Hk.mkGX T.g__simple_value T.f_simple_value (fun _ _ _ _ _ _ us hl => match us, hl with | [_, _], _ => rfl) sc_simple_value (fun vs H Q E h => spF_len h) (fun cdv A outer s H vs Q E hr h => ?_)
  exact ⟨_, (pss_cons (ps_set (i := 2) sc_simple_value.nd rfl (.inl rfl) (pe_ix ix_U (pv 0) pe_int (fun _ _ => rfl)))
      (pss_cons (ps_if (pt_cmpR (op_eqU hr.units) (pv 2) pe_str (nomark _))
        (pss_one (ps_ret pe_bl))
        pss_nil)
      (pss_cons (ps_set (i := 3) sc_simple_value.nd rfl (.inl rfl) (pe_ix ix_U (pv 1) (pe_ix ix_U (pv 0) pe_int (fun _ _ => rfl)) (fun _ _ => rfl)))
      (pss_cons (ps_if (pt_cmpR (op_eqU hr.units) (pv 2) pe_str (nomark _))
        (pss_one (ps_ret (pe_cmpR op_isU (pv 3) pe_non (nomark _))))
        pss_nil)
      (pss_cons (ps_if (pt_cmpR (op_eqU hr.units) (pv 2) pe_str (nomark _))
        (pss_one (ps_ret (Hk.pe_g (ok_quotient_value T) (hr.mono (by decide)) (L2N.passes_call (L2N.takes_of rfl rfl rfl rfl) (fun _ _ _ _ h => h)) (pa_cons (pv 3) (pa_cons (pe_ix ix_U (pv 1) (pe_ix ix_U (pv 0) pe_int (fun _ _ => rfl)) (fun _ _ => rfl)) (pa_cons (pe_ix ix_U (pv 0) pe_int (fun _ _ => rfl)) pa_nil))))))
        pss_nil)
      (pss_cons (ps_if (pt_cmpR op_isU (pv 3) pe_non (nomark _))
        (pss_one (ps_ret pe_non))
        pss_nil)
      (pss_one (ps_ret (pe_ifExp (pt_cmpR (op_eqU hr.units) (pv 2) pe_str (nomark _)) (pe_cmpR (op_eqU hr.units) (pv 3) (pe_ix ix_U (pv 0) pe_int (fun _ _ => rfl)) (nomark _)) (pe_cmpR op_lt (pv 3) (pe_ix ix_U (pv 0) pe_int (fun _ _ => rfl)) (nomark _))))))))))), fn_go (N := ["condition", "row", "word", "known"]) (ss_seq (ss_asg (se_op sr_ix sb_var (SimE.b se_int)) sg_name)
      (ss_seq (ss_if (st_tst (SimE.b (se_op sr_eq sb_var (SimE.b se_str))))
        (ss_ret (SimE.b se_bl))
        ss_next)
      (ss_seq (ss_asg (se_op sr_ix sb_var (SimE.b (se_op sr_ix sb_var (SimE.b se_int)))) sg_name)
      (ss_seq (ss_if (st_tst (SimE.b (se_op sr_eq sb_var (SimE.b se_str))))
        (ss_ret (SimE.b (se_op sr_is sb_var (SimE.b se_non))))
        ss_next)
      (ss_seq (ss_if (st_tst (SimE.b (se_op sr_eq sb_var (SimE.b se_str))))
        (ss_ret (SimE.b (se_call (sa_cons se_var (sa_cons (se_op sr_ix sb_var (SimE.b (se_op sr_ix sb_var (SimE.b se_int)))) (sa_cons (se_op sr_ix sb_var (SimE.b se_int)) sa_nil))))))
        ss_next)
      (ss_seq (ss_if (st_tst (SimE.b (se_op sr_is sb_var (SimE.b se_non))))
        (ss_ret (SimE.b se_non))
        ss_next)
      (ss_ret (SimE.b (se_if (st_tst (SimE.b (se_op sr_eq sb_var (SimE.b se_str)))) (se_op sr_eq sb_var (SimE.b (se_op sr_ix sb_var (SimE.b se_int)))) (se_op sr_cmp sb_var (SimE.b (se_op sr_ix sb_var (SimE.b se_int))))))))))))) h⟩
end
end T04

end
section
set_option Elab.async false
set_option linter.all false
set_option maxRecDepth 100000
set_option maxHeartbeats 4000000
namespace T04
open PySem PySem.Spec PyProof.Rows L2 Fu
open He (ga ma ba)
noncomputable section
variable {P : Program} {w : World} {K : PySem.W.Frag} {mg : Str → Option Value} {base : Heap}
def b_truth (F_rec : Fn) : FS := (seqS (asgS (opF ixG (bvarF 0) (cF (.int 0))) (nameG 2))
      (seqS (ifS (tstF (opF (orOwn "Truth" F_Truth_eq (eqG id)) (bvarF 2) (cF (.str "not"))))
        (retS (unF (ownG1 "Truth" F_Truth_invert) (callN 2 F_rec (consA (opF ixG (bvarF 0) (cF (.int 1))) (consA (varF 1) nilA)))))
        nextS)
      (seqS (ifS (tstF (opF (orOwn "Truth" F_Truth_eq (eqG id)) (bvarF 2) (cF (.str "and"))))
        (seqS (asgS (callN 2 F_rec (consA (opF ixG (bvarF 0) (cF (.int 1))) (consA (varF 1) nilA))) (nameG 3))
        (retS (ifF (tstF (opF (orOwn "Truth" F_Truth_eq (eqG id)) (fldF "Truth" "rank" (varF 3)) (cF (.int 0)))) (varF 3) (opF (ownG "Truth" F_Truth_and) (bvarF 3) (callN 2 F_rec (consA (opF ixG (bvarF 0) (cF (.int 2))) (consA (varF 1) nilA)))))))
        nextS)
      (seqS (ifS (tstF (opF (orOwn "Truth" F_Truth_eq (eqG id)) (bvarF 2) (cF (.str "or"))))
        (seqS (asgS (callN 2 F_rec (consA (opF ixG (bvarF 0) (cF (.int 1))) (consA (varF 1) nilA))) (nameG 3))
        (retS (ifF (tstF (opF (orOwn "Truth" F_Truth_eq (eqG id)) (fldF "Truth" "rank" (varF 3)) (cF (.int 2)))) (varF 3) (opF (ownG "Truth" F_Truth_or) (bvarF 3) (callN 2 F_rec (consA (opF ixG (bvarF 0) (cF (.int 2))) (consA (varF 1) nilA)))))))
        nextS)
      (retS (statF 1 F_Truth_of (consA (callN 2 F_simple_value (consA (varF 0) (consA (varF 1) nilA))) nilA)))))))
def F_truth : Nat → Fn
  | 0 => fun _ _ => .stuck
  | k + 1 => fnOf 4 (b_truth (F_truth k))
theorem ok_truth (T : Txt K mg) : ∀ k, Hk.GOk P w K mg base (L2N.CX P w) (k + 5) "truth" ["condition", "row"] (spF K 2 (F_truth k))
  | 0 => go_zero T.g_truth T.f_truth (fun _ _ _ _ _ _ us hl => match us, hl with | [_, _], _ => rfl) (fun vs H Q E h => spF_len h) (fun vs H Q E h => spF_zero h)
  | k + 1 => by
    have G := ok_truth T k
    refine Hk.mkGX T.g_truth T.f_truth (fun _ _ _ _ _ _ us hl => match us, hl with | [_, _], _ => rfl) sc_truth (fun vs H Q E h => spF_len h) (fun cdv A outer s H vs Q E hr h => ?_)
    exact ⟨_, (pss_cons (ps_set (i := 2) sc_truth.nd rfl (.inl rfl) (pe_ix ix_U (pv 0) pe_int (fun _ _ => rfl)))
      (pss_cons (ps_if (pt_cmpR ((op_eqU hr.units).or (Hk.op_cmp (ok_Truth_eq T) (fun _ _ => rfl) T.m_Truth_eq (hr.mono (by omega)) passN0)) (pv 2) pe_str (nomark _))
        (pss_one (ps_ret (pe_un (Hk.un_inv (ok_Truth_invert T) T.m_Truth_invert (hr.mono (by omega)) passN0) (Hk.pe_g (G) (hr.mono (by omega)) (L2N.passes_call (L2N.takes_of rfl rfl rfl rfl) (fun _ _ _ _ h => h)) (pa_cons (pe_ix ix_U (pv 0) pe_int (fun _ _ => rfl)) (pa_cons (pv 1) pa_nil))))))
        pss_nil)
      (pss_cons (ps_if (pt_cmpR ((op_eqU hr.units).or (Hk.op_cmp (ok_Truth_eq T) (fun _ _ => rfl) T.m_Truth_eq (hr.mono (by omega)) passN0)) (pv 2) pe_str (nomark _))
        (pss_cons (ps_set (i := 3) sc_truth.nd rfl (.inl rfl) (Hk.pe_g (G) (hr.mono (by omega)) (L2N.passes_call (L2N.takes_of rfl rfl rfl rfl) (fun _ _ _ _ h => h)) (pa_cons (pe_ix ix_U (pv 0) pe_int (fun _ _ => rfl)) (pa_cons (pv 1) pa_nil))))
        (pss_one (ps_ret (pe_ifExp (pt_cmpR ((op_eqU hr.units).or (Hk.op_cmp (ok_Truth_eq T) (fun _ _ => rfl) T.m_Truth_eq (hr.mono (by omega)) passN0)) (pe_fld (pv 3) rfl) pe_int (nomark _)) (pv 3) (pe_op (Hk.op_bin (ok_Truth_and T) T.sf_Truth T.m_Truth_and (hr.mono (by omega)) passN0) (pv 3) (Hk.pe_g (G) (hr.mono (by omega)) (L2N.passes_call (L2N.takes_of rfl rfl rfl rfl) (fun _ _ _ _ h => h)) (pa_cons (pe_ix ix_U (pv 0) pe_int (fun _ _ => rfl)) (pa_cons (pv 1) pa_nil))))))))
        pss_nil)
      (pss_cons (ps_if (pt_cmpR ((op_eqU hr.units).or (Hk.op_cmp (ok_Truth_eq T) (fun _ _ => rfl) T.m_Truth_eq (hr.mono (by omega)) passN0)) (pv 2) pe_str (nomark _))
        (pss_cons (ps_set (i := 3) sc_truth.nd rfl (.inl rfl) (Hk.pe_g (G) (hr.mono (by omega)) (L2N.passes_call (L2N.takes_of rfl rfl rfl rfl) (fun _ _ _ _ h => h)) (pa_cons (pe_ix ix_U (pv 0) pe_int (fun _ _ => rfl)) (pa_cons (pv 1) pa_nil))))
        (pss_one (ps_ret (pe_ifExp (pt_cmpR ((op_eqU hr.units).or (Hk.op_cmp (ok_Truth_eq T) (fun _ _ => rfl) T.m_Truth_eq (hr.mono (by omega)) passN0)) (pe_fld (pv 3) rfl) pe_int (nomark _)) (pv 3) (pe_op (Hk.op_bin (ok_Truth_or T) T.sf_Truth T.m_Truth_or (hr.mono (by omega)) passN0) (pv 3) (Hk.pe_g (G) (hr.mono (by omega)) (L2N.passes_call (L2N.takes_of rfl rfl rfl rfl) (fun _ _ _ _ h => h)) (pa_cons (pe_ix ix_U (pv 0) pe_int (fun _ _ => rfl)) (pa_cons (pv 1) pa_nil))))))))
        pss_nil)
      (pss_one (ps_ret (Hk.pe_s (ok_Truth_of T) T.r_Truth T.st_Truth_of (hr.mono (by omega)) (L2N.passes_call (L2N.takes_of rfl rfl rfl rfl) (fun _ _ _ _ h => h)) (pe_glob (v := .ref (ga K "Truth")) (by rfl) T.g_Truth rfl) (pa_cons (Hk.pe_g (ok_simple_value T) (hr.mono (by omega)) (L2N.passes_call (L2N.takes_of rfl rfl rfl rfl) (fun _ _ _ _ h => h)) (pa_cons (pv 0) (pa_cons (pv 1) pa_nil))) pa_nil)))))))), fn_go (N := ["condition", "row", "word", "left"]) (ss_seq (ss_asg (se_op sr_ix sb_var (SimE.b se_int)) sg_name)
      (ss_seq (ss_if (st_tst (SimE.b (se_op (sr_orOwn sr_eq) sb_var (SimE.b se_str))))
        (ss_ret (SimE.b (se_un su_own (SimE.b (se_call (sa_cons (se_op sr_ix sb_var (SimE.b se_int)) (sa_cons se_var sa_nil)))))))
        ss_next)
      (ss_seq (ss_if (st_tst (SimE.b (se_op (sr_orOwn sr_eq) sb_var (SimE.b se_str))))
        (ss_seq (ss_asg (se_call (sa_cons (se_op sr_ix sb_var (SimE.b se_int)) (sa_cons se_var sa_nil))) sg_name)
        (ss_ret (SimE.b (se_if (st_tst (SimE.b (se_op (sr_orOwn sr_eq) (SimE.b (se_fld T.cl_Truth T.n_Truth_rank se_var)) (SimE.b se_int)))) se_var (se_op sr_own sb_var (SimE.b (se_call (sa_cons (se_op sr_ix sb_var (SimE.b se_int)) (sa_cons se_var sa_nil)))))))))
        ss_next)
      (ss_seq (ss_if (st_tst (SimE.b (se_op (sr_orOwn sr_eq) sb_var (SimE.b se_str))))
        (ss_seq (ss_asg (se_call (sa_cons (se_op sr_ix sb_var (SimE.b se_int)) (sa_cons se_var sa_nil))) sg_name)
        (ss_ret (SimE.b (se_if (st_tst (SimE.b (se_op (sr_orOwn sr_eq) (SimE.b (se_fld T.cl_Truth T.n_Truth_rank se_var)) (SimE.b se_int)))) se_var (se_op sr_own sb_var (SimE.b (se_call (sa_cons (se_op sr_ix sb_var (SimE.b se_int)) (sa_cons se_var sa_nil)))))))))
        ss_next)
      (ss_ret (SimE.b (se_stat se_con (sa_cons (se_call (sa_cons se_var (sa_cons se_var sa_nil))) sa_nil)))))))) h⟩
end
end T04

end
section
set_option Elab.async false
set_option linter.all false
set_option maxRecDepth 100000
set_option maxHeartbeats 4000000
namespace T04
open PySem PySem.Spec PyProof.Rows L2 Fu
open He (ga ma ba)
noncomputable section
variable {P : Program} {w : World} {K : PySem.W.Frag} {mg : Str → Option Value} {base : Heap}
def b_second : FS := (seqS (asgS (callN 2 F_draw (consA (varF 0) (consA (cF (.int 8)) nilA))) (nameG 2))
      (seqS (asgS (callN 3 (F_condition 3) (consA (varF 0) (consA (cF (.int 2)) (consA (cF (.int 1)) nilA)))) (nameG 3))
      (seqS (ifS (tstF (opF (eqG id) (bvarF 2) (cF (.int 1))))
        (retS (tupF (consA (cF (.str "not")) (consA (tupF (consA (cF (.str "not")) (consA (varF 1) nilA))) nilA))))
        nextS)
      (seqS (ifS (tstF (opF (eqG id) (bvarF 2) (cF (.int 2))))
        (retS (tupF (consA (cF (.str "and")) (consA (varF 1) (consA (varF 3) nilA)))))
        nextS)
      (seqS (ifS (tstF (opF (eqG id) (bvarF 2) (cF (.int 3))))
        (retS (tupF (consA (cF (.str "or")) (consA (varF 1) (consA (varF 3) nilA)))))
        nextS)
      (seqS (ifS (tstF (opF (eqG id) (bvarF 2) (cF (.int 4))))
        (retS (tupF (consA (cF (.str "and")) (consA (varF 3) (consA (varF 1) nilA)))))
        nextS)
      (seqS (ifS (tstF (opF (eqG id) (bvarF 2) (cF (.int 5))))
        (retS (tupF (consA (cF (.str "or")) (consA (varF 3) (consA (varF 1) nilA)))))
        nextS)
      (seqS (ifS (tstF (opF (eqG id) (bvarF 2) (cF (.int 6))))
        (retS (tupF (consA (cF (.str "not")) (consA (varF 1) nilA))))
        nextS)
      (seqS (ifS (tstF (opF (eqG id) (bvarF 2) (cF (.int 7))))
        (retS (tupF (consA (cF (.str "and")) (consA (varF 1) (consA (varF 1) nilA)))))
        nextS)
      (retS (bvarF 3)))))))))))
def F_second : Fn := fnOf 4 b_second
theorem ok_second (T : Txt K mg) : Hk.GOk P w K mg base (L2N.CX P w) 6 "_law_second" ["_law_box_here", "_law_first"] (spF K 2 F_second) := by
  refine Hk.mkGX T.g__law_second T.f_second (fun _ _ _ _ _ _ us hl => match us, hl with | [_, _], _ => rfl) sc_second (fun vs H Q E h => spF_len h) (fun cdv A outer s H vs Q E hr h => ?_)
  exact ⟨_, (pss_cons (ps_set (i := 2) sc_second.nd rfl (.inl rfl) (Hk.pe_g (ok_draw T) (hr.mono (by decide)) (L2N.passes_call (L2N.takes_of rfl rfl rfl rfl) (fun _ _ _ _ h => h)) (pa_cons (pv 0) (pa_cons pe_int pa_nil))))
      (pss_cons (ps_set (i := 3) sc_second.nd rfl (.inl rfl) (Hk.pe_g (ok_condition T 3) (hr.mono (by decide)) (L2N.passes_call (L2N.takes_of rfl rfl rfl rfl) (fun _ _ _ _ h => h)) (pa_cons (pv 0) (pa_cons pe_int (pa_cons pe_int pa_nil)))))
      (pss_cons (ps_if (pt_cmpR (op_eqU hr.units) (pv 2) pe_int (nomark _))
        (pss_one (ps_ret (pe_tup (pa_cons pe_str (pa_cons (pe_tup (pa_cons pe_str (pa_cons (pv 1) pa_nil))) pa_nil)))))
        pss_nil)
      (pss_cons (ps_if (pt_cmpR (op_eqU hr.units) (pv 2) pe_int (nomark _))
        (pss_one (ps_ret (pe_tup (pa_cons pe_str (pa_cons (pv 1) (pa_cons (pv 3) pa_nil))))))
        pss_nil)
      (pss_cons (ps_if (pt_cmpR (op_eqU hr.units) (pv 2) pe_int (nomark _))
        (pss_one (ps_ret (pe_tup (pa_cons pe_str (pa_cons (pv 1) (pa_cons (pv 3) pa_nil))))))
        pss_nil)
      (pss_cons (ps_if (pt_cmpR (op_eqU hr.units) (pv 2) pe_int (nomark _))
        (pss_one (ps_ret (pe_tup (pa_cons pe_str (pa_cons (pv 3) (pa_cons (pv 1) pa_nil))))))
        pss_nil)
      (pss_cons (ps_if (pt_cmpR (op_eqU hr.units) (pv 2) pe_int (nomark _))
        (pss_one (ps_ret (pe_tup (pa_cons pe_str (pa_cons (pv 3) (pa_cons (pv 1) pa_nil))))))
        pss_nil)
      (pss_cons (ps_if (pt_cmpR (op_eqU hr.units) (pv 2) pe_int (nomark _))
        (pss_one (ps_ret (pe_tup (pa_cons pe_str (pa_cons (pv 1) pa_nil)))))
        pss_nil)
      (pss_cons (ps_if (pt_cmpR (op_eqU hr.units) (pv 2) pe_int (nomark _))
        (pss_one (ps_ret (pe_tup (pa_cons pe_str (pa_cons (pv 1) (pa_cons (pv 1) pa_nil))))))
        pss_nil)
      (pss_one (ps_ret (pv 3)))))))))))), fn_go (N := ["_law_box_here", "_law_first", "_law_kind", "_law_drawn"]) (ss_seq (ss_asg (se_call (sa_cons se_var (sa_cons se_int sa_nil))) sg_name)
      (ss_seq (ss_asg (se_call (sa_cons se_var (sa_cons se_int (sa_cons se_int sa_nil)))) sg_name)
      (ss_seq (ss_if (st_tst (SimE.b (se_op sr_eq sb_var (SimE.b se_int))))
        (ss_ret (SimE.b (se_tup (sa_cons se_str (sa_cons (se_tup (sa_cons se_str (sa_cons se_var sa_nil))) sa_nil)))))
        ss_next)
      (ss_seq (ss_if (st_tst (SimE.b (se_op sr_eq sb_var (SimE.b se_int))))
        (ss_ret (SimE.b (se_tup (sa_cons se_str (sa_cons se_var (sa_cons se_var sa_nil))))))
        ss_next)
      (ss_seq (ss_if (st_tst (SimE.b (se_op sr_eq sb_var (SimE.b se_int))))
        (ss_ret (SimE.b (se_tup (sa_cons se_str (sa_cons se_var (sa_cons se_var sa_nil))))))
        ss_next)
      (ss_seq (ss_if (st_tst (SimE.b (se_op sr_eq sb_var (SimE.b se_int))))
        (ss_ret (SimE.b (se_tup (sa_cons se_str (sa_cons se_var (sa_cons se_var sa_nil))))))
        ss_next)
      (ss_seq (ss_if (st_tst (SimE.b (se_op sr_eq sb_var (SimE.b se_int))))
        (ss_ret (SimE.b (se_tup (sa_cons se_str (sa_cons se_var (sa_cons se_var sa_nil))))))
        ss_next)
      (ss_seq (ss_if (st_tst (SimE.b (se_op sr_eq sb_var (SimE.b se_int))))
        (ss_ret (SimE.b (se_tup (sa_cons se_str (sa_cons se_var sa_nil)))))
        ss_next)
      (ss_seq (ss_if (st_tst (SimE.b (se_op sr_eq sb_var (SimE.b se_int))))
        (ss_ret (SimE.b (se_tup (sa_cons se_str (sa_cons se_var (sa_cons se_var sa_nil))))))
        ss_next)
      (ss_ret sb_var)))))))))) h⟩
end
end T04

end
section
set_option Elab.async false
set_option linter.all false
set_option maxRecDepth 100000
set_option maxHeartbeats 4000000
namespace T04
open PySem PySem.Spec PyProof.Rows L2 Fu
open He (ga ma ba)
noncomputable section
variable {P : Program} {w : World} {K : PySem.W.Frag} {mg : Str → Option Value} {base : Heap}
def b_codes : FS := (retS (valN (compN (anyI (callN 0 F_every nilA)) [1] (nameX 1) yesT (callN 2 (F_Ltruth 5) (consA (varF 0) (consA (varF 1) nilA))))))
def F_codes : Fn := fnOf 2 b_codes
theorem ok_codes (T : Txt K mg) : Hk.GOk P w K mg base (L2N.CX P w) 7 "_law_codes" ["_law_condition_here"] (spF K 1 F_codes) := by
  refine Hk.mkGX T.g__law_codes T.f_codes (fun _ _ _ _ _ _ us hl => match us, hl with | [_], _ => rfl) sc_codes (fun vs H Q E h => spF_len h) (fun cdv A outer s H vs Q E hr h => ?_)
  exact ⟨_, (pss_one (ps_ret (pe_lc (own := [("_law_row", 1)]) rfl sc_codes.nd (pi_any (Hk.pe_g0 (ok_every T) (hr.mono (by decide)) (L2N.passes_call (L2N.takes_of rfl rfl rfl rfl) (fun _ _ _ _ h => h)))) (blkOk_by (own := [("_law_row", 1)]) (N := ["_law_condition_here", "_law_row"]) (sc := defScope s_codes) (by decide +kernel)) (fun _ _ _ _ _ => pg_name (i := 1) sc_codes.nd rfl (Or.inl rfl)) (fun _ _ _ _ _ => pts_nil) (fun _ _ _ _ _ => (Hk.pe_g (ok_Ltruth T 5) (hr.mono (by decide)) passN0 (pa_cons (pv 0) (pa_cons (pv 1) pa_nil))))))), fn_go (N := ["_law_condition_here", "_law_row"]) (ss_ret (SimE.b (SimN.e (sn_lc (si_any (se_call sa_nil)) sx_name st_yes (se_call (sa_cons se_var (sa_cons se_var sa_nil))))))) h⟩
end
end T04

end
section
set_option Elab.async false
set_option linter.all false
set_option maxRecDepth 100000
set_option maxHeartbeats 4000000
namespace T04
open PySem PySem.Spec PyProof.Rows L2 Fu
open He (ga ma ba)
noncomputable section
variable {P : Program} {w : World} {K : PySem.W.Frag} {mg : Str → Option Value} {base : Heap}
def b_outcome : FS := (tryM (([("BookError", false), ("Refusal", false), ("ZeroDivisor", true)], fun c => (retS (cF (.str "error")))) :: [])
          (retS (propF "Truth" F_Truth_word (callN 2 (F_truth 5) (consA (varF 0) (consA (varF 1) nilA))))))
noncomputable def F_outcome : Fn := trim (fnOf 2 b_outcome)
theorem ok0_outcome (T : Txt K mg) : Hk.GOk P w K mg base (L2N.CX P w) 11 "outcome" ["condition", "row"] (spF K 2 (fnOf 2 b_outcome)) := by
  refine Hk.mkGX T.g_outcome T.f_outcome (fun _ _ _ _ _ _ us hl => match us, hl with | [_, _], _ => rfl) sc_outcome (fun vs H Q E h => spF_len h) (fun cdv A outer s H vs Q E hr h => ?_)
  refine ⟨_, (pss_one (ps_tryM rfl rfl (L2N.takes_of rfl rfl rfl rfl) (fun W pn xe tk hp => by exact
          (pss_one (ps_ret (Hk.pe_p (ok_Truth_word T) T.cl_Truth T.p_Truth_word (hr.mono (by decide)) passN0 (Hk.pe_gS (ok_truth T 5) (hr.mono (by decide)) (fun σ => L2N.passAt tk σ) (pa_cons (pv 0) (pa_cons (pv 1) pa_nil))))))) (L2N.HdsOk.cons ⟨rfl, by decide, .inl T.g_ZeroDivisor⟩ (fun a oe cls d pn hz hf => by exact
          (pss_one (ps_ret pe_str))) L2N.HdsOk.nil))), ?_⟩
  exact fn_go (N := ["condition", "row"]) (ss_tryM (fun W => (ss_ret (SimE.b (se_prop (se_callS (sa_cons se_var (sa_cons se_var sa_nil))))))) (SimHs.cons (fun a c d => (ss_ret (SimE.b se_str))) (lk_cons T.k_BookError_ZeroDivisor (lk_cons T.k_Refusal_ZeroDivisor (lk_cons T.k_ZeroDivisor_ZeroDivisor lk_nil))) SimHs.nil)) h
theorem ok_outcome (T : Txt K mg) : Hk.GOk P w K mg base (L2N.CX P w) 11 "outcome" ["condition", "row"] (spF K 2 F_outcome) := (ok0_outcome T).imp fun vs H Q E h => trim_sp h
end
end T04

end
section
set_option Elab.async false
set_option linter.all false
set_option maxRecDepth 100000
set_option maxHeartbeats 4000000
namespace T04
open PySem PySem.Spec PyProof.Rows L2 Fu
open He (ga ma ba)
noncomputable section
variable {P : Program} {w : World} {K : PySem.W.Frag} {mg : Str → Option Value} {base : Heap}
def b_outcomes : FS := (retS (callB tupG1 (consA (valN (compN (genI F_all_rows) [1] (nameX 1) yesT (callN 2 F_outcome (consA (varF 0) (consA (varF 1) nilA))))) nilA)))
def F_outcomes : Fn := fnOf 2 b_outcomes
theorem ok_outcomes (T : Txt K mg) : Hk.GOk P w K mg base (L2N.CX P w) 12 "outcomes" ["condition"] (spF K 1 F_outcomes) := by
  refine Hk.mkGX T.g_outcomes T.f_outcomes (fun _ _ _ _ _ _ us hl => match us, hl with | [_], _ => rfl) sc_outcomes (fun vs H Q E h => spF_len h) (fun cdv A outer s H vs Q E hr h => ?_)
  exact ⟨_, (pss_one (ps_ret (pe_callTy call_tupU (by rfl) T.z_tuple (by decide +kernel) (pa_cons (pe_lcG (own := [("row", 1)]) rfl sc_outcomes.nd (w_all_rows (P := P) (w := w) (base := base) T).walk (w_all_rows (P := P) (w := w) (base := base) T).small (hr.mono (by decide)) (by rfl) (blkOk_by (own := [("row", 1)]) (N := ["condition", "row"]) (sc := defScope s_outcomes) (by decide +kernel)) (fun _ _ _ _ _ => pg_name (i := 1) sc_outcomes.nd rfl (Or.inl rfl)) (fun _ _ _ _ _ => pts_nil) (fun _ _ _ _ _ => (Hk.pe_g (ok_outcome T) (hr.mono (by decide)) passN0 (pa_cons (pv 0) (pa_cons (pv 1) pa_nil))))) pa_nil)))), fn_go (N := ["condition", "row"]) (ss_ret (SimE.b (se_cb sc_tup (sab_cons (SimE.b (SimN.e (sn_lcG (w_all_rows (P := P) (w := w) (base := base) T).len (w_all_rows (P := P) (w := w) (base := base) T).val sx_name st_yes (se_call (sa_cons se_var (sa_cons se_var sa_nil)))))) sab_nil)))) h⟩
end
end T04

end
section
set_option Elab.async false
set_option linter.all false
set_option maxRecDepth 100000
set_option maxHeartbeats 4000000
namespace T04
open PySem PySem.Spec PyProof.Rows L2 Fu
open He (ga ma ba)
noncomputable section
variable {P : Program} {w : World} {K : PySem.W.Frag} {mg : Str → Option Value} {base : Heap}
def b_true_rows : FS := (retS (valN (compN (genI F_all_rows) [1] (nameX 1) (tstF (opF (eqG id) (callN 2 F_outcome (consA (varF 0) (consA (varF 1) nilA))) (cF (.str "true")))) (varF 1))))
def F_true_rows : Fn := fnOf 2 b_true_rows
theorem ok_true_rows (T : Txt K mg) : Hk.GOk P w K mg base (L2N.CX P w) 12 "true_rows" ["condition"] (spF K 1 F_true_rows) := by
  refine Hk.mkGX T.g_true_rows T.f_true_rows (fun _ _ _ _ _ _ us hl => match us, hl with | [_], _ => rfl) sc_true_rows (fun vs H Q E h => spF_len h) (fun cdv A outer s H vs Q E hr h => ?_)
  exact ⟨_, (pss_one (ps_ret (pe_lcG (own := [("row", 1)]) rfl sc_true_rows.nd (w_all_rows (P := P) (w := w) (base := base) T).walk (w_all_rows (P := P) (w := w) (base := base) T).small (hr.mono (by decide)) (by rfl) (blkOk_by (own := [("row", 1)]) (N := ["condition", "row"]) (sc := defScope s_true_rows) (by decide +kernel)) (fun _ _ _ _ _ => pg_name (i := 1) sc_true_rows.nd rfl (Or.inl rfl)) (fun _ _ _ _ _ => pts_one (pt_cmpR (op_eqU hr.units) (Hk.pe_g (ok_outcome T) (hr.mono (by decide)) passN0 (pa_cons (pv 0) (pa_cons (pv 1) pa_nil))) pe_str (nomark _))) (fun _ _ _ _ _ => (pv 1))))), fn_go (N := ["condition", "row"]) (ss_ret (SimE.b (SimN.e (sn_lcG (w_all_rows (P := P) (w := w) (base := base) T).len (w_all_rows (P := P) (w := w) (base := base) T).val sx_name (st_tst (SimE.b (se_op sr_eq (SimE.b (se_call (sa_cons se_var (sa_cons se_var sa_nil)))) (SimE.b se_str)))) se_var)))) h⟩
end
end T04

end
section
set_option Elab.async false
set_option linter.all false
set_option maxRecDepth 100000
set_option maxHeartbeats 4000000
namespace T04
open PySem PySem.Spec PyProof.Rows L2 Fu
open He (ga ma ba)
noncomputable section
variable {P : Program} {w : World} {K : PySem.W.Frag} {mg : Str → Option Value} {base : Heap}
def b_live_rows : FS := (retS (liveF (compN (genI F_all_rows) [1] (nameX 1) (tstF (opF (inW false) (callN 2 F_outcome (consA (varF 0) (consA (varF 1) nilA))) (tupF (consA (cF (.str "true")) (consA (cF (.str "error")) nilA))))) (varF 1))))
def F_live_rows : Fn := fnOf 2 b_live_rows
theorem ok_live_rows (T : Txt K mg) : Hk.GOk P w K mg base (L2N.CX P w) 12 "live_rows" ["condition"] (spF K 1 F_live_rows) := by
  refine Hk.mkGX T.g_live_rows T.f_live_rows (fun _ _ _ _ _ _ us hl => match us, hl with | [_], _ => rfl) sc_live_rows (fun vs H Q E h => spF_len h) (fun cdv A outer s H vs Q E hr h => ?_)
  exact ⟨_, (pss_one (ps_ret (pe_lcG (own := [("row", 1)]) rfl sc_live_rows.nd (w_all_rows (P := P) (w := w) (base := base) T).walk (w_all_rows (P := P) (w := w) (base := base) T).small (hr.mono (by decide)) (by rfl) (blkOk_by (own := [("row", 1)]) (N := ["condition", "row"]) (sc := defScope s_live_rows) (by decide +kernel)) (fun _ _ _ _ _ => pg_name (i := 1) sc_live_rows.nd rfl (Or.inl rfl)) (fun _ _ _ _ _ => pts_one (pt_cmpR (op_inW (un65 hr)) (Hk.pe_g (ok_outcome T) (hr.mono (by decide)) passN0 (pa_cons (pv 0) (pa_cons (pv 1) pa_nil))) (pe_tup (pa_cons pe_str (pa_cons pe_str pa_nil))) rfl)) (fun _ _ _ _ _ => (pv 1))))), fn_go (N := ["condition", "row"]) (ss_ret (SimE.b (se_live (sn_lcG (w_all_rows (P := P) (w := w) (base := base) T).len (w_all_rows (P := P) (w := w) (base := base) T).val sx_name (st_tst (SimE.b (se_op sr_inW (SimE.b (se_call (sa_cons se_var (sa_cons se_var sa_nil)))) (SimE.b (se_tup (sa_cons se_str (sa_cons se_str sa_nil))))))) se_var)))) h⟩
end
end T04

end
section
set_option Elab.async false
set_option linter.all false
set_option maxRecDepth 100000
set_option maxHeartbeats 4000000
namespace T04
open PySem PySem.Spec PyProof.Rows L2 Fu
open He (ga ma ba)
noncomputable section
variable {P : Program} {w : World} {K : PySem.W.Frag} {mg : Str → Option Value} {base : Heap}
def b_escape : FS := (seqS (forS (anyI (freezeF (callN 1 F_live_rows (consA (varF 0) nilA)))) (nameG 2)
        (ifS (tstF (opF (eqG not) (callN 2 F_outcome (consA (varF 1) (consA (varF 2) nilA))) (cF (.str "true"))))
          (retS (bvarF 2))
          nextS))
      (retS (cF .non)))
noncomputable def F_escape : Fn := trim (fnOf 3 b_escape)
theorem ok0_escape (T : Txt K mg) : Hk.GOk P w K mg base (L2N.CX P w) 13 "escape" ["condition", "other"] (spF K 2 (fnOf 3 b_escape)) := by
  refine Hk.mkGX T.g_escape T.f_escape (fun _ _ _ _ _ _ us hl => match us, hl with | [_, _], _ => rfl) sc_escape (fun vs H Q E h => spF_len h) (fun cdv A outer s H vs Q E hr h => ?_)
  exact ⟨_, (pss_cons (ps_for (passes_of rfl) rfl (pi_any (Hk.pe_g (ok_live_rows T) (hr.mono (by decide)) (L2N.passes_call (L2N.takes_of rfl rfl rfl rfl) (fun _ _ _ _ h => h)) (pa_cons (pv 0) pa_nil))) (pg_name (i := 2) sc_escape.nd rfl (.inl rfl))
        (pss_one (ps_if (pt_cmpR (op_neU hr.units) (Hk.pe_g (ok_outcome T) (hr.mono (by decide)) (L2N.passes_call (L2N.takes_of rfl rfl rfl rfl) (fun _ _ _ _ h => h)) (pa_cons (pv 1) (pa_cons (pv 2) pa_nil))) pe_str (nomark _))
          (pss_one (ps_ret (pv 2)))
          pss_nil)))
      (pss_one (ps_ret pe_non))), fn_go (N := ["condition", "other", "row"]) (ss_seq (ss_for (si_any (se_freeze (se_call (sa_cons se_var sa_nil)))) sg_name
        (ss_if (st_tst (SimE.b (se_op sr_ne (SimE.b (se_call (sa_cons se_var (sa_cons se_var sa_nil)))) (SimE.b se_str))))
          (ss_ret sb_var)
          ss_next))
      (ss_ret (SimE.b se_non))) h⟩
theorem ok_escape (T : Txt K mg) : Hk.GOk P w K mg base (L2N.CX P w) 13 "escape" ["condition", "other"] (spF K 2 F_escape) := (ok0_escape T).imp fun vs H Q E h => trim_sp h
end
end T04

end
section
set_option Elab.async false
set_option linter.all false
set_option maxRecDepth 100000
set_option maxHeartbeats 4000000
namespace T04
open PySem PySem.Spec PyProof.Rows L2 Fu
open He (ga ma ba)
noncomputable section
variable {P : Program} {w : World} {K : PySem.W.Frag} {mg : Str → Option Value} {base : Heap}
def b_alike : FS := (retS (opF (eqG id) (callN 1 F_outcomes (consA (varF 0) nilA)) (callN 1 F_outcomes (consA (varF 1) nilA))))
def F_alike : Fn := fnOf 2 b_alike
theorem ok_alike (T : Txt K mg) : Hk.GOk P w K mg base (L2N.CX P w) 13 "alike" ["condition", "other"] (spF K 2 F_alike) := by
  refine Hk.mkGX T.g_alike T.f_alike (fun _ _ _ _ _ _ us hl => match us, hl with | [_, _], _ => rfl) sc_alike (fun vs H Q E h => spF_len h) (fun cdv A outer s H vs Q E hr h => ?_)
  exact ⟨_, (pss_one (ps_ret (pe_cmpR (op_eqU hr.units) (Hk.pe_g (ok_outcomes T) (hr.mono (by decide)) (L2N.passes_call (L2N.takes_of rfl rfl rfl rfl) (fun _ _ _ _ h => h)) (pa_cons (pv 0) pa_nil)) (Hk.pe_g (ok_outcomes T) (hr.mono (by decide)) (L2N.passes_call (L2N.takes_of rfl rfl rfl rfl) (fun _ _ _ _ h => h)) (pa_cons (pv 1) pa_nil)) (nomark _)))), fn_go (N := ["condition", "other"]) (ss_ret (SimE.b (se_op sr_eq (SimE.b (se_call (sa_cons se_var sa_nil))) (SimE.b (se_call (sa_cons se_var sa_nil)))))) h⟩
end
end T04

end
section
set_option Elab.async false
set_option linter.all false
set_option maxRecDepth 100000
set_option maxHeartbeats 4000000
namespace T04
open PySem PySem.Spec PyProof.Rows L2 Fu
open He (ga ma ba)
noncomputable section
variable {P : Program} {w : World} {K : PySem.W.Frag} {mg : Str → Option Value} {base : Heap}
def b_tables_told : FS := (seqS (asgS (callN 0 F_every nilA) (nameG 3))
      (seqS (asgS (callB tupG1 (consA (valN (compN (anyI (varF 1)) [5] (nameX 5) yesT (opF ixG (tupF (consA (cF (.str "false")) (consA (cF (.str "unknown")) (consA (cF (.str "true")) (consA (cF (.str "error")) nilA))))) (bvarF 5)))) nilA)) (nameG 4))
      (seqS (ifS (orT (notT (tstF (callN 2 (F_Lalike 3) (consA (callN 1 F_outcomes (consA (varF 0) nilA)) (consA (varF 4) nilA))))) (notT (tstF (callN 2 (F_Lalike 3) (consA (callN 2 F_outcome (consA (varF 0) (consA (opF ixG (bvarF 3) (bvarF 2)) nilA))) (consA (opF ixG (bvarF 4) (bvarF 2)) nilA))))))
        (retS (cF (.bl false)))
        nextS)
      (seqS (ifS (notT (tstF (callN 2 (F_Lalike 3) (consA (callN 1 F_true_rows (consA (varF 0) nilA)) (consA (valN (compN (range1I (consA (cF (.int 64)) nilA)) [6] (nameX 6) (tstF (opF (eqG id) (opF ixG (bvarF 1) (bvarF 6)) (cF (.int 2)))) (opF ixG (bvarF 3) (bvarF 6)))) nilA)))))
        (retS (cF (.bl false)))
        nextS)
      (retS (callN 2 (F_Lalike 3) (consA (callN 1 F_live_rows (consA (varF 0) nilA)) (consA (valN (compN (range1I (consA (cF (.int 64)) nilA)) [6] (nameX 6) (tstF (opF gtG (opF ixG (bvarF 1) (bvarF 6)) (cF (.int 1)))) (opF ixG (bvarF 3) (bvarF 6)))) nilA))))))))
noncomputable def F_tables_told : Fn := trim (fnOf 7 b_tables_told)
theorem ok0_tables_told (T : Txt K mg) : Hk.GOk P w K mg base (L2N.CX P w) 13 "_law_tables_told" ["_law_condition_here", "_law_codes_here", "_law_at"] (spF K 3 (fnOf 7 b_tables_told)) := by
  refine Hk.mkGX T.g__law_tables_told T.f_tables_told (fun _ _ _ _ _ _ us hl => match us, hl with | [_, _, _], _ => rfl) sc_tables_told (fun vs H Q E h => spF_len h) (fun cdv A outer s H vs Q E hr h => ?_)
  exact ⟨_, (pss_cons (ps_set (i := 3) sc_tables_told.nd rfl (.inr rfl) (Hk.pe_g0 (ok_every T) (hr.mono (by decide)) (L2N.passes_call (L2N.takes_of rfl rfl rfl rfl) (fun _ _ _ _ h => h))))
      (pss_cons (ps_set (i := 4) sc_tables_told.nd rfl (.inl rfl) (pe_callTy call_tupU (by rfl) T.z_tuple (by decide +kernel) (pa_cons (pe_lc (own := [("_law_code", 5)]) rfl sc_tables_told.nd (pi_any (pv 1)) (blkOk_by (own := [("_law_code", 5)]) (N := ["_law_condition_here", "_law_codes_here", "_law_at", "_law_every_here", "_law_words", "_law_code", "_law_k"]) (sc := defScope s_tables_told) (by decide +kernel)) (fun _ _ _ _ _ => pg_name (i := 5) sc_tables_told.nd rfl (Or.inl rfl)) (fun _ _ _ _ _ => pts_nil) (fun _ _ _ _ _ => (pe_ix ix_U (pe_tup (pa_cons pe_str (pa_cons pe_str (pa_cons pe_str (pa_cons pe_str pa_nil))))) (pv 5) (fun _ _ => rfl)))) pa_nil)))
      (pss_cons (ps_if (PW.pt (pw_or (pt_not (pt_val (Hk.pe_g (ok_Lalike T 3) (hr.mono (by decide)) (L2N.passes_call (L2N.takes_of rfl rfl rfl rfl) (fun _ _ _ _ h => h)) (pa_cons (Hk.pe_g (ok_outcomes T) (hr.mono (by decide)) (L2N.passes_call (L2N.takes_of rfl rfl rfl rfl) (fun _ _ _ _ h => h)) (pa_cons (pv 0) pa_nil)) (pa_cons (pv 4) pa_nil))))) (pw_or1 (pt_not (pt_val (Hk.pe_g (ok_Lalike T 3) (hr.mono (by decide)) (L2N.passes_call (L2N.takes_of rfl rfl rfl rfl) (fun _ _ _ _ h => h)) (pa_cons (Hk.pe_g (ok_outcome T) (hr.mono (by decide)) (L2N.passes_call (L2N.takes_of rfl rfl rfl rfl) (fun _ _ _ _ h => h)) (pa_cons (pv 0) (pa_cons (pe_ix ix_U (pv 3) (pv 2) (fun _ _ => rfl)) pa_nil))) (pa_cons (pe_ix ix_U (pv 4) (pv 2) (fun _ _ => rfl)) pa_nil))))))))
        (pss_one (ps_ret pe_bl))
        pss_nil)
      (pss_cons (ps_if (pt_not (pt_val (Hk.pe_g (ok_Lalike T 3) (hr.mono (by decide)) (L2N.passes_call (L2N.takes_of rfl rfl rfl rfl) (fun _ _ _ _ h => h)) (pa_cons (Hk.pe_g (ok_true_rows T) (hr.mono (by decide)) (L2N.passes_call (L2N.takes_of rfl rfl rfl rfl) (fun _ _ _ _ h => h)) (pa_cons (pv 0) pa_nil)) (pa_cons (pe_lc (own := [("_law_k", 6)]) rfl sc_tables_told.nd (pi_range1 (by rfl) T.z_range (pa_cons pe_int pa_nil)) (blkOk_by (own := [("_law_k", 6)]) (N := ["_law_condition_here", "_law_codes_here", "_law_at", "_law_every_here", "_law_words", "_law_code", "_law_k"]) (sc := defScope s_tables_told) (by decide +kernel)) (fun _ _ _ _ _ => pg_name (i := 6) sc_tables_told.nd rfl (Or.inl rfl)) (fun _ _ _ _ _ => pts_one (pt_cmpR (op_eqU hr.units) (pe_ix ix_U (pv 1) (pv 6) (fun _ _ => rfl)) pe_int (nomark _))) (fun _ _ _ _ _ => (pe_ix ix_U (pv 3) (pv 6) (fun _ _ => rfl)))) pa_nil)))))
        (pss_one (ps_ret pe_bl))
        pss_nil)
      (pss_one (ps_ret (Hk.pe_g (ok_Lalike T 3) (hr.mono (by decide)) (L2N.passes_call (L2N.takes_of rfl rfl rfl rfl) (fun _ _ _ _ h => h)) (pa_cons (Hk.pe_g (ok_live_rows T) (hr.mono (by decide)) (L2N.passes_call (L2N.takes_of rfl rfl rfl rfl) (fun _ _ _ _ h => h)) (pa_cons (pv 0) pa_nil)) (pa_cons (pe_lc (own := [("_law_k", 6)]) rfl sc_tables_told.nd (pi_range1 (by rfl) T.z_range (pa_cons pe_int pa_nil)) (blkOk_by (own := [("_law_k", 6)]) (N := ["_law_condition_here", "_law_codes_here", "_law_at", "_law_every_here", "_law_words", "_law_code", "_law_k"]) (sc := defScope s_tables_told) (by decide +kernel)) (fun _ _ _ _ _ => pg_name (i := 6) sc_tables_told.nd rfl (Or.inl rfl)) (fun _ _ _ _ _ => pts_one (pt_cmpR op_gt (pe_ix ix_U (pv 1) (pv 6) (fun _ _ => rfl)) pe_int (nomark _))) (fun _ _ _ _ _ => (pe_ix ix_U (pv 3) (pv 6) (fun _ _ => rfl)))) pa_nil))))))))), fn_go (N := ["_law_condition_here", "_law_codes_here", "_law_at", "_law_every_here", "_law_words", "_law_code", "_law_k"]) (ss_seq (ss_asg (se_call sa_nil) sg_name)
      (ss_seq (ss_asg (se_cb sc_tup (sab_cons (SimE.b (SimN.e (sn_lc (si_any se_var) sx_name st_yes (se_op sr_ix (SimE.b (se_tup (sa_cons se_str (sa_cons se_str (sa_cons se_str (sa_cons se_str sa_nil)))))) sb_var)))) sab_nil)) sg_name)
      (ss_seq (ss_if (st_or (st_not (st_tB (SimE.b (se_call (sa_cons (se_call (sa_cons se_var sa_nil)) (sa_cons se_var sa_nil)))))) (st_not (st_tB (SimE.b (se_call (sa_cons (se_call (sa_cons se_var (sa_cons (se_op sr_ix sb_var sb_var) sa_nil))) (sa_cons (se_op sr_ix sb_var sb_var) sa_nil)))))))
        (ss_ret (SimE.b se_bl))
        ss_next)
      (ss_seq (ss_if (st_not (st_tB (SimE.b (se_call (sa_cons (se_call (sa_cons se_var sa_nil)) (sa_cons (SimN.e (sn_lc (si_range1 (sab_cons (SimE.b se_int) sab_nil)) sx_name (st_tst (SimE.b (se_op sr_eq (SimE.b (se_op sr_ix sb_var sb_var)) (SimE.b se_int)))) (se_op sr_ix sb_var sb_var))) sa_nil))))))
        (ss_ret (SimE.b se_bl))
        ss_next)
      (ss_ret (SimE.b (se_call (sa_cons (se_call (sa_cons se_var sa_nil)) (sa_cons (SimN.e (sn_lc (si_range1 (sab_cons (SimE.b se_int) sab_nil)) sx_name (st_tst (SimE.b (se_op sr_cmp (SimE.b (se_op sr_ix sb_var sb_var)) (SimE.b se_int)))) (se_op sr_ix sb_var sb_var))) sa_nil))))))))) h⟩
theorem ok_tables_told (T : Txt K mg) : Hk.GOk P w K mg base (L2N.CX P w) 13 "_law_tables_told" ["_law_condition_here", "_law_codes_here", "_law_at"] (spF K 3 F_tables_told) := (ok0_tables_told T).imp fun vs H Q E h => trim_sp h
end
end T04

end
section
set_option Elab.async false
set_option linter.all false
set_option maxRecDepth 100000
set_option maxHeartbeats 4000000
namespace T04
open PySem PySem.Spec PyProof.Rows L2 Fu
open He (ga ma ba)
noncomputable section
variable {P : Program} {w : World} {K : PySem.W.Frag} {mg : Str → Option Value} {base : Heap}
def b_law : FS := (seqS (asgS (callN 1 F_box (consA (varF 0) nilA)) (nameG 1))
      (seqS (asgS (callN 3 (F_condition 3) (consA (varF 1) (consA (cF (.int 3)) (consA (cF (.int 1)) nilA)))) (nameG 2))
      (seqS (asgS (callN 2 F_second (consA (varF 1) (consA (varF 2) nilA))) (nameG 3))
      (seqS (asgS (callN 2 F_draw (consA (varF 1) (consA (cF (.int 64)) nilA))) (nameG 4))
      (seqS (asgS (callN 1 F_codes (consA (varF 2) nilA)) (nameG 5))
      (seqS (asgS (callN 1 F_codes (consA (varF 3) nilA)) (nameG 6))
      (seqS (asgS (callN 1 F_live_rows (consA (varF 2) nilA)) (nameG 7))
      (seqS (ifS (notT (tstF (callB isiG (consA (bvarF 7) (consA (cF (.ty "list")) nilA)))))
        (retS (cF (.bl false)))
        nextS)
      (seqS (exprS (lmF appG (varF 7) (consA (tupF (consA (cF (.int 0)) (consA (cF (.int 0)) (consA (cF (.int 0)) nilA)))) nilA)))
      (seqS (ifS (orT (notT (tstF (callN 3 F_tables_told (consA (varF 2) (consA (varF 5) (consA (varF 4) nilA)))))) (notT (tstF (callN 3 F_tables_told (consA (varF 3) (consA (varF 6) (consA (opF subG (cF (.int 63)) (bvarF 4)) nilA)))))))
        (retS (cF (.bl false)))
        nextS)
      (seqS (ifS (notT (tstF (callN 2 (F_Lalike 3) (consA (callN 2 F_escape (consA (varF 2) (consA (varF 3) nilA))) (consA (callN 2 F_Lescape (consA (varF 5) (consA (varF 6) nilA))) nilA)))))
        (retS (cF (.bl false)))
        nextS)
      (seqS (ifS (notT (tstF (callN 2 (F_Lalike 3) (consA (callN 2 F_escape (consA (varF 3) (consA (varF 2) nilA))) (consA (callN 2 F_Lescape (consA (varF 6) (consA (varF 5) nilA))) nilA)))))
        (retS (cF (.bl false)))
        nextS)
      (seqS (ifS (notT (tstF (callN 2 (F_Lalike 3) (consA (callN 2 F_escape (consA (varF 2) (consA (varF 2) nilA))) (consA (callN 2 F_Lescape (consA (varF 5) (consA (varF 5) nilA))) nilA)))))
        (retS (cF (.bl false)))
        nextS)
      (retS (andF (callN 2 (F_Lalike 3) (consA (callN 2 F_alike (consA (varF 2) (consA (varF 3) nilA))) (consA (opF (eqG id) (bvarF 5) (bvarF 6)) nilA))) (callN 2 (F_Lalike 3) (consA (callN 2 F_alike (consA (varF 3) (consA (varF 2) nilA))) (consA (opF (eqG id) (bvarF 5) (bvarF 6)) nilA))))))))))))))))))
def F_law : Fn := fnOf 8 b_law
theorem ok_law (T : Txt K mg) {fd : FuncData} (F : FunD K "law" "law" (defArgs s_law) (defBody s_law) (defScope s_law) [] [] (ga K "law") fd) : FnOk P w K mg base (L2N.CX P w) 17 (ga K "law") fd ["_law_script"] (spF K 1 F_law) := by
  refine F.ok sc_law (fun vs H Q E h => spF_len h) (fun cdv A outer s H vs Q E hr h => ?_)
  exact ⟨_, (pss_cons (ps_set (i := 1) sc_law.nd rfl (.inl rfl) (Hk.pe_g (ok_box T) (hr.mono (by decide)) (L2N.passes_call (L2N.takes_of rfl rfl rfl rfl) (fun _ _ _ _ h => h)) (pa_cons (pv 0) pa_nil)))
      (pss_cons (ps_set (i := 2) sc_law.nd rfl (.inl rfl) (Hk.pe_g (ok_condition T 3) (hr.mono (by decide)) (L2N.passes_call (L2N.takes_of rfl rfl rfl rfl) (fun _ _ _ _ h => h)) (pa_cons (pv 1) (pa_cons pe_int (pa_cons pe_int pa_nil)))))
      (pss_cons (ps_set (i := 3) sc_law.nd rfl (.inl rfl) (Hk.pe_g (ok_second T) (hr.mono (by decide)) (L2N.passes_call (L2N.takes_of rfl rfl rfl rfl) (fun _ _ _ _ h => h)) (pa_cons (pv 1) (pa_cons (pv 2) pa_nil))))
      (pss_cons (ps_set (i := 4) sc_law.nd rfl (.inl rfl) (Hk.pe_g (ok_draw T) (hr.mono (by decide)) (L2N.passes_call (L2N.takes_of rfl rfl rfl rfl) (fun _ _ _ _ h => h)) (pa_cons (pv 1) (pa_cons pe_int pa_nil))))
      (pss_cons (ps_set (i := 5) sc_law.nd rfl (.inl rfl) (Hk.pe_g (ok_codes T) (hr.mono (by decide)) (L2N.passes_call (L2N.takes_of rfl rfl rfl rfl) (fun _ _ _ _ h => h)) (pa_cons (pv 2) pa_nil)))
      (pss_cons (ps_set (i := 6) sc_law.nd rfl (.inl rfl) (Hk.pe_g (ok_codes T) (hr.mono (by decide)) (L2N.passes_call (L2N.takes_of rfl rfl rfl rfl) (fun _ _ _ _ h => h)) (pa_cons (pv 3) pa_nil)))
      (pss_cons (ps_set (i := 7) sc_law.nd rfl (.inl rfl) (Hk.pe_g (ok_live_rows T) (hr.mono (by decide)) (L2N.passes_call (L2N.takes_of rfl rfl rfl rfl) (fun _ _ _ _ h => h)) (pa_cons (pv 2) pa_nil)))
      (pss_cons (ps_if (pt_not (pt_val (pe_callB call_isi (by rfl) T.z_isinstance (by decide +kernel) (pa_cons (pv 7) (pa_cons (pe_bltn (v := .ty "list") (by rfl) T.z_list (by decide +kernel) rfl) pa_nil)))))
        (pss_one (ps_ret pe_bl))
        pss_nil)
      (pss_cons (ps_expr (pe_bm PySem.F.plainAttrs_list PySem.F.slot_list_append PySem.F.type_list_append mt_append (pv 7) (pa_cons (pe_tup (pa_cons pe_int (pa_cons pe_int (pa_cons pe_int pa_nil)))) pa_nil)))
      (pss_cons (ps_if (PW.pt (pw_or (pt_not (pt_val (Hk.pe_g (ok_tables_told T) (hr.mono (by decide)) (L2N.passes_call (L2N.takes_of rfl rfl rfl rfl) (fun _ _ _ _ h => h)) (pa_cons (pv 2) (pa_cons (pv 5) (pa_cons (pv 4) pa_nil)))))) (pw_or1 (pt_not (pt_val (Hk.pe_g (ok_tables_told T) (hr.mono (by decide)) (L2N.passes_call (L2N.takes_of rfl rfl rfl rfl) (fun _ _ _ _ h => h)) (pa_cons (pv 3) (pa_cons (pv 6) (pa_cons (pe_op op_sub pe_int (pv 4)) pa_nil)))))))))
        (pss_one (ps_ret pe_bl))
        pss_nil)
      (pss_cons (ps_if (pt_not (pt_val (Hk.pe_g (ok_Lalike T 3) (hr.mono (by decide)) (L2N.passes_call (L2N.takes_of rfl rfl rfl rfl) (fun _ _ _ _ h => h)) (pa_cons (Hk.pe_g (ok_escape T) (hr.mono (by decide)) (L2N.passes_call (L2N.takes_of rfl rfl rfl rfl) (fun _ _ _ _ h => h)) (pa_cons (pv 2) (pa_cons (pv 3) pa_nil))) (pa_cons (Hk.pe_g (ok_Lescape T) (hr.mono (by decide)) (L2N.passes_call (L2N.takes_of rfl rfl rfl rfl) (fun _ _ _ _ h => h)) (pa_cons (pv 5) (pa_cons (pv 6) pa_nil))) pa_nil)))))
        (pss_one (ps_ret pe_bl))
        pss_nil)
      (pss_cons (ps_if (pt_not (pt_val (Hk.pe_g (ok_Lalike T 3) (hr.mono (by decide)) (L2N.passes_call (L2N.takes_of rfl rfl rfl rfl) (fun _ _ _ _ h => h)) (pa_cons (Hk.pe_g (ok_escape T) (hr.mono (by decide)) (L2N.passes_call (L2N.takes_of rfl rfl rfl rfl) (fun _ _ _ _ h => h)) (pa_cons (pv 3) (pa_cons (pv 2) pa_nil))) (pa_cons (Hk.pe_g (ok_Lescape T) (hr.mono (by decide)) (L2N.passes_call (L2N.takes_of rfl rfl rfl rfl) (fun _ _ _ _ h => h)) (pa_cons (pv 6) (pa_cons (pv 5) pa_nil))) pa_nil)))))
        (pss_one (ps_ret pe_bl))
        pss_nil)
      (pss_cons (ps_if (pt_not (pt_val (Hk.pe_g (ok_Lalike T 3) (hr.mono (by decide)) (L2N.passes_call (L2N.takes_of rfl rfl rfl rfl) (fun _ _ _ _ h => h)) (pa_cons (Hk.pe_g (ok_escape T) (hr.mono (by decide)) (L2N.passes_call (L2N.takes_of rfl rfl rfl rfl) (fun _ _ _ _ h => h)) (pa_cons (pv 2) (pa_cons (pv 2) pa_nil))) (pa_cons (Hk.pe_g (ok_Lescape T) (hr.mono (by decide)) (L2N.passes_call (L2N.takes_of rfl rfl rfl rfl) (fun _ _ _ _ h => h)) (pa_cons (pv 5) (pa_cons (pv 5) pa_nil))) pa_nil)))))
        (pss_one (ps_ret pe_bl))
        pss_nil)
      (pss_one (ps_ret (pe_and (Hk.pe_g (ok_Lalike T 3) (hr.mono (by decide)) (L2N.passes_call (L2N.takes_of rfl rfl rfl rfl) (fun _ _ _ _ h => h)) (pa_cons (Hk.pe_g (ok_alike T) (hr.mono (by decide)) (L2N.passes_call (L2N.takes_of rfl rfl rfl rfl) (fun _ _ _ _ h => h)) (pa_cons (pv 2) (pa_cons (pv 3) pa_nil))) (pa_cons (pe_cmpR (op_eqU hr.units) (pv 5) (pv 6) (nomark _)) pa_nil))) (pe_one (Hk.pe_g (ok_Lalike T 3) (hr.mono (by decide)) (L2N.passes_call (L2N.takes_of rfl rfl rfl rfl) (fun _ _ _ _ h => h)) (pa_cons (Hk.pe_g (ok_alike T) (hr.mono (by decide)) (L2N.passes_call (L2N.takes_of rfl rfl rfl rfl) (fun _ _ _ _ h => h)) (pa_cons (pv 3) (pa_cons (pv 2) pa_nil))) (pa_cons (pe_cmpR (op_eqU hr.units) (pv 5) (pv 6) (nomark _)) pa_nil)))))))))))))))))))), fn_go (N := ["_law_script", "_law_box_here", "_law_first", "_law_second_here", "_law_at", "_law_codes_here", "_law_others", "_law_live"]) (ss_seq (ss_asg (se_call (sa_cons se_var sa_nil)) sg_name)
      (ss_seq (ss_asg (se_call (sa_cons se_var (sa_cons se_int (sa_cons se_int sa_nil)))) sg_name)
      (ss_seq (ss_asg (se_call (sa_cons se_var (sa_cons se_var sa_nil))) sg_name)
      (ss_seq (ss_asg (se_call (sa_cons se_var (sa_cons se_int sa_nil))) sg_name)
      (ss_seq (ss_asg (se_call (sa_cons se_var sa_nil)) sg_name)
      (ss_seq (ss_asg (se_call (sa_cons se_var sa_nil)) sg_name)
      (ss_seq (ss_asg (se_call (sa_cons se_var sa_nil)) sg_name)
      (ss_seq (ss_if (st_not (st_tB (SimE.b (se_cb sc_isi (sab_cons sb_var (sab_cons (SimE.b se_ty) sab_nil))))))
        (ss_ret (SimE.b se_bl))
        ss_next)
      (ss_seq (ss_expr (SimE.b (se_lm sm_app se_var (sa_cons (se_tup (sa_cons se_int (sa_cons se_int (sa_cons se_int sa_nil)))) sa_nil))))
      (ss_seq (ss_if (st_or (st_not (st_tB (SimE.b (se_call (sa_cons se_var (sa_cons se_var (sa_cons se_var sa_nil))))))) (st_not (st_tB (SimE.b (se_call (sa_cons se_var (sa_cons se_var (sa_cons (se_op sr_int0 (SimE.b se_int) sb_var) sa_nil))))))))
        (ss_ret (SimE.b se_bl))
        ss_next)
      (ss_seq (ss_if (st_not (st_tB (SimE.b (se_call (sa_cons (se_call (sa_cons se_var (sa_cons se_var sa_nil))) (sa_cons (se_call (sa_cons se_var (sa_cons se_var sa_nil))) sa_nil))))))
        (ss_ret (SimE.b se_bl))
        ss_next)
      (ss_seq (ss_if (st_not (st_tB (SimE.b (se_call (sa_cons (se_call (sa_cons se_var (sa_cons se_var sa_nil))) (sa_cons (se_call (sa_cons se_var (sa_cons se_var sa_nil))) sa_nil))))))
        (ss_ret (SimE.b se_bl))
        ss_next)
      (ss_seq (ss_if (st_not (st_tB (SimE.b (se_call (sa_cons (se_call (sa_cons se_var (sa_cons se_var sa_nil))) (sa_cons (se_call (sa_cons se_var (sa_cons se_var sa_nil))) sa_nil))))))
        (ss_ret (SimE.b se_bl))
        ss_next)
      (ss_ret (SimE.b (se_and (SimE.b (se_call (sa_cons (se_call (sa_cons se_var (sa_cons se_var sa_nil))) (sa_cons (se_op sr_eq sb_var sb_var) sa_nil)))) (se_call (sa_cons (se_call (sa_cons se_var (sa_cons se_var sa_nil))) (sa_cons (se_op sr_eq sb_var sb_var) sa_nil))))))))))))))))))) h⟩
end
end T04

end
section
set_option linter.all false
set_option maxRecDepth 100000
set_option maxHeartbeats 4000000
namespace LB
open PySem PySem.Spec PyProof.Rows L2 Fu
noncomputable section
def fx_ZeroDivisor : FX := (("told", (tupF (consA (cF (.str "refused")) (consA (cF (.str "zero")) nilA)))) :: [])
def b_Truth_init : FS := (fldS "Truth" "rank" (varF 0) (varF 1))
def F_Truth_init : Fn := fnOf 2 b_Truth_init
def b_Truth_value : FS := (retS (opF ixG (cF (.ktu [(.bl false), .non, (.bl true)])) (fldF "Truth" "rank" (varF 0))))
def F_Truth_value : Fn := fnOf 1 b_Truth_value
def b_Truth_word : FS := (retS (opF ixG (cF (.ktu [(.str "false"), (.str "unknown"), (.str "true")])) (fldF "Truth" "rank" (varF 0))))
def F_Truth_word : Fn := fnOf 1 b_Truth_word
def b_Truth_and : FS := (retS (ifF (tstF (opF ltG (fldF "Truth" "rank" (varF 0)) (fldF "Truth" "rank" (varF 1)))) (varF 0) (varF 1)))
def F_Truth_and : Fn := fnOf 2 b_Truth_and
def b_Truth_or : FS := (retS (ifF (tstF (opF gtG (fldF "Truth" "rank" (varF 0)) (fldF "Truth" "rank" (varF 1)))) (varF 0) (varF 1)))
def F_Truth_or : Fn := fnOf 2 b_Truth_or
def b_Truth_eq : FS := (seqS (ifS (notT (tstF (callB isiG (consA (bvarF 1) (consA (cF (.con "Truth")) nilA)))))
        stuckS
        nextS)
      (retS (opF (eqG id) (fldF "Truth" "rank" (varF 0)) (fldF "Truth" "rank" (varF 1)))))
def F_Truth_eq : Fn := fnOf 2 b_Truth_eq
def b_Truth_bool : FS := (retS (callB boolC (consA (opF (eqG id) (fldF "Truth" "rank" (varF 0)) (cF (.int 2))) nilA)))
def F_Truth_bool : Fn := fnOf 1 b_Truth_bool
def b_box : FS := (retS (liveF (lstN (consA (valN (listN (consA (bvarF 0) nilA))) (consA (cF (.int 0)) (consA (cF (.int 0)) (consA (cF (.int 0)) (consA (cF (.int 0)) nilA))))))))
def F_box : Fn := fnOf 1 b_box
def b_draw : FS := (seqS (ifS (tstF (opF (eqG id) (opF ixG (bvarF 0) (cF (.int 3))) (cF (.int 0))))
        (seqS (ifS (tstF (opF geG (opF ixG (bvarF 0) (cF (.int 1))) (callB lenG (consA (opF ixG (bvarF 0) (cF (.int 0))) nilA))))
          (retS (cF (.int 0)))
          nextS)
        (seqS (asgS (callB absG (consA (callB intC (consA (opF ixG (opF ixG (bvarF 0) (cF (.int 0))) (opF ixG (bvarF 0) (cF (.int 1)))) nilA)) nilA)) (subsG (varF 0) (cF (.int 2))))
        (seqS (asgS (opF addG (opF ixG (bvarF 0) (cF (.int 1))) (cF (.int 1))) (subsG (varF 0) (cF (.int 1))))
        (seqS (asgS (callB intC (consA (opF geG (opF ixG (bvarF 0) (cF (.int 2))) (opF powG (cF (.int 10)) (cF (.int 18)))) nilA)) (subsG (varF 0) (cF (.int 4))))
        (asgS (opF addG (cF (.int 12)) (opF mulG (cF (.int 48)) (opF ixG (bvarF 0) (cF (.int 4))))) (subsG (varF 0) (cF (.int 3))))))))
        nextS)
      (seqS (asgS (opF subG (opF ixG (bvarF 0) (cF (.int 3))) (cF (.int 1))) (subsG (varF 0) (cF (.int 3))))
      (seqS (ifS (tstF (opF (eqG id) (opF ixG (bvarF 0) (cF (.int 4))) (cF (.int 1))))
        (seqS (asgS (opF modG (callB intC (consA (opF ixG (bvarF 0) (cF (.int 2))) nilA)) (bvarF 1)) (nameG 2))
        (seqS (asgS (opF divG (callB intC (consA (opF ixG (bvarF 0) (cF (.int 2))) nilA)) (bvarF 1)) (subsG (varF 0) (cF (.int 2))))
        (seqS (ifS (tstF (opF (eqG id) (opF ixG (bvarF 0) (cF (.int 2))) (cF (.int 0))))
          (asgS (cF (.int 0)) (subsG (varF 0) (cF (.int 3))))
          nextS)
        (retS (bvarF 2)))))
        nextS)
      (seqS (asgS (opF modG (callB intC (consA (opF addG (opF addG (opF mulG (callB intC (consA (opF ixG (bvarF 0) (cF (.int 2))) nilA)) (cF (.int 48271))) (opF mulG (opF ixG (bvarF 0) (cF (.int 3))) (cF (.int 69621)))) (cF (.int 13))) nilA)) (cF (.int 2147483647))) (nameG 3))
      (seqS (asgS (opF modG (callB intC (consA (opF addG (opF addG (opF mulG (bvarF 3) (cF (.int 16807))) (opF mulG (opF ixG (bvarF 0) (cF (.int 3))) (cF (.int 40692)))) (cF (.int 7))) nilA)) (cF (.int 2147483629))) (nameG 3))
      (retS (opF modG (callB intC (consA (bvarF 3) nilA)) (bvarF 1))))))))
def F_draw : Fn := fnOf 4 b_draw
def b_Ltruth (F_rec : Fn) : FS := (seqS (asgS (opF ixG (bvarF 0) (cF (.int 0))) (nameG 2))
      (seqS (ifS (tstF (opF (eqG id) (bvarF 2) (cF (.str "always"))))
        (retS (cF (.int 2)))
        nextS)
      (seqS (ifS (tstF (opF (eqG id) (bvarF 2) (cF (.str "not"))))
        (seqS (asgS (callN 2 F_rec (consA (opF ixG (bvarF 0) (cF (.int 1))) (consA (varF 1) nilA))) (nameG 3))
        (retS (ifF (tstF (opF (eqG id) (bvarF 3) (cF (.int 3)))) (cF (.int 3)) (opF subG (cF (.int 2)) (bvarF 3)))))
        nextS)
      (seqS (ifS (orT (tstF (opF (eqG id) (bvarF 2) (cF (.str "and")))) (tstF (opF (eqG id) (bvarF 2) (cF (.str "or")))))
        (seqS (asgS (ifF (tstF (opF (eqG id) (bvarF 2) (cF (.str "and")))) (cF (.int 0)) (cF (.int 2))) (nameG 4))
        (seqS (asgS (callN 2 F_rec (consA (opF ixG (bvarF 0) (cF (.int 1))) (consA (varF 1) nilA))) (nameG 5))
        (seqS (ifS (orT (tstF (opF (eqG id) (bvarF 5) (bvarF 4))) (tstF (opF (eqG id) (bvarF 5) (cF (.int 3)))))
          (retS (bvarF 5))
          nextS)
        (seqS (asgS (callN 2 F_rec (consA (opF ixG (bvarF 0) (cF (.int 2))) (consA (varF 1) nilA))) (nameG 6))
        (seqS (ifS (orT (tstF (opF (eqG id) (bvarF 6) (cF (.int 3)))) (tstF (opF (eqG id) (bvarF 6) (bvarF 4))))
          (retS (bvarF 6))
          nextS)
        (retS (ifF (orT (tstF (opF (eqG id) (bvarF 5) (cF (.int 1)))) (tstF (opF (eqG id) (bvarF 6) (cF (.int 1))))) (cF (.int 1)) (varF 6))))))))
        nextS)
      (seqS (asgS (opF ixG (bvarF 1) (opF ixG (bvarF 0) (cF (.int 1)))) (nameG 7))
      (seqS (ifS (tstF (opF (eqG id) (bvarF 2) (cF (.str "quotient"))))
        (seqS (asgS (opF ixG (bvarF 1) (opF ixG (bvarF 0) (cF (.int 2)))) (nameG 8))
        (seqS (ifS (tstF (opF (eqG id) (bvarF 8) (cF (.int 0))))
          (retS (cF (.int 3)))
          nextS)
        (seqS (ifS (orT (tstF (opF (isG id) (bvarF 7) (cF .non))) (tstF (opF (isG id) (bvarF 8) (cF .non))))
          (retS (cF (.int 1)))
          nextS)
        (retS (ifF (tstF (opF (eqG id) (opF divG (bvarF 7) (bvarF 8)) (opF ixG (bvarF 0) (cF (.int 3))))) (cF (.int 2)) (cF (.int 0)))))))
        nextS)
      (seqS (ifS (tstF (opF (eqG id) (bvarF 2) (cF (.str "unknown"))))
        (retS (ifF (tstF (opF (isG id) (bvarF 7) (cF .non))) (cF (.int 2)) (cF (.int 0))))
        nextS)
      (seqS (ifS (tstF (opF (isG id) (bvarF 7) (cF .non)))
        (retS (cF (.int 1)))
        nextS)
      (seqS (ifS (tstF (opF (eqG id) (bvarF 2) (cF (.str "equal"))))
        (retS (ifF (tstF (opF (eqG id) (bvarF 7) (opF ixG (bvarF 0) (cF (.int 2))))) (cF (.int 2)) (cF (.int 0))))
        nextS)
      (retS (ifF (tstF (opF ltG (bvarF 7) (opF ixG (bvarF 0) (cF (.int 2))))) (cF (.int 2)) (cF (.int 0)))))))))))))
def F_Ltruth : Nat → Fn
  | 0 => fun _ _ => .stuck
  | k + 1 => fnOf 9 (b_Ltruth (F_Ltruth k))
def b_alike (F_rec : Fn) : FS := (seqS (ifS (tstF (opF (isG id) (bvarF 1) (cF .non)))
        (retS (opF (isG id) (bvarF 0) (cF .non)))
        nextS)
      (seqS (ifS (orT (tstF (opF (isG id) (bvarF 1) (cF (.bl true)))) (tstF (opF (isG id) (bvarF 1) (cF (.bl false)))))
        (retS (andF (callB isiG (consA (bvarF 0) (consA (cF (.ty "bool")) nilA))) (opF (eqG id) (bvarF 0) (bvarF 1))))
        nextS)
      (seqS (ifS (tstF (callB isiG (consA (bvarF 1) (consA (cF (.ty "int")) nilA))))
        (retS (andF (callB isiG (consA (bvarF 0) (consA (cF (.ty "int")) nilA))) (andF (notF (callB isiG (consA (bvarF 0) (consA (cF (.ty "bool")) nilA)))) (opF (eqG id) (bvarF 0) (bvarF 1)))))
        nextS)
      (seqS (ifS (tstF (callB isiG (consA (bvarF 1) (consA (cF (.ty "str")) nilA))))
        (retS (andF (callB isiG (consA (bvarF 0) (consA (cF (.ty "str")) nilA))) (opF (eqG id) (bvarF 0) (bvarF 1))))
        nextS)
      (seqS (ifS (tstF (callB isiG (consA (bvarF 1) (consA (cF (.ty "tuple")) nilA))))
        (ifS (orT (notT (tstF (callB isiG (consA (bvarF 0) (consA (cF (.ty "tuple")) nilA))))) (tstF (opF (eqG not) (callB lenG (consA (bvarF 0) nilA)) (callB lenG (consA (bvarF 1) nilA)))))
          (retS (cF (.bl false)))
          nextS)
        (ifS (orT (notT (tstF (callB isiG (consA (bvarF 0) (consA (cF (.ty "list")) nilA))))) (tstF (opF (eqG not) (callB lenG (consA (bvarF 0) nilA)) (callB lenG (consA (bvarF 1) nilA)))))
          (retS (cF (.bl false)))
          nextS))
      (seqS (forS (range1I (consA (callB lenG (consA (bvarF 1) nilA)) nilA)) (nameG 2)
        (ifS (notT (tstF (callN 2 F_rec (consA (opF ixG (bvarF 0) (bvarF 2)) (consA (opF ixG (bvarF 1) (bvarF 2)) nilA)))))
          (retS (cF (.bl false)))
          nextS))
      (retS (cF (.bl true)))))))))
def F_alike : Nat → Fn
  | 0 => fun _ _ => .stuck
  | k + 1 => fnOf 3 (b_alike (F_alike k))
def b_pick : FS := (retS (opF ixG (bvarF 1) (callN 2 F_draw (consA (varF 0) (consA (callB lenG (consA (bvarF 1) nilA)) nilA)))))
def F_pick : Fn := fnOf 2 b_pick
def b_names : FS := (seqS (asgS (cF (.str "abcdefghijklmnopqrstuvwxyz")) (nameG 2))
      (seqS (ownS 3 (lstN nilA))
      (seqS (forS (range1I (consA (bvarF 1) nilA)) (nameG 4)
        (seqS (asgS (cF (.str "")) (nameG 5))
        (seqS (forS (range1I (consA (callN 2 F_draw (consA (varF 0) (consA (cF (.int 8)) nilA))) nilA)) (nameG 6)
          (asgS (opF addG (bvarF 5) (opF ixG (bvarF 2) (callN 2 F_draw (consA (varF 0) (consA (cF (.int 26)) nilA))))) (nameG 5)))
        (seqS (asgS (valN (compN (anyI (varF 2)) [8] (nameX 8) (tstF (opF (inW true) (opF addG (bvarF 5) (bvarF 8)) (opF addG (bvarF 3) (valN (lstN (consA (cF (.str "on")) (consA (cF (.str "set")) (consA (cF (.str "new")) nilA)))))))) (varF 8))) (nameG 7))
        (ownApp 3 (opF addG (bvarF 5) (opF ixG (bvarF 7) (callN 2 F_draw (consA (varF 0) (consA (callB lenG (consA (bvarF 7) nilA)) nilA))))))))))
      (frzS 3 (retS (bvarF 3))))))
def F_names : Fn := fnOf 9 b_names
def b_row : FS := (seqS (asgS (tupF nilA) (nameG 1))
      (seqS (forS (range1I (consA (cF (.int 3)) nilA)) (nameG 2)
        (asgS (opF addG (bvarF 1) (tupF (consA (opF ixG (tupF (consA (cF .non) (consA (cF (.int 0)) (consA (cF (.int 1)) (consA (cF (.int 2)) (consA (cF (.int 0)) (consA (cF (.int 1)) nilA))))))) (callN 2 F_draw (consA (varF 0) (consA (cF (.int 6)) nilA)))) nilA))) (nameG 1)))
      (retS (bvarF 1))))
def F_row : Fn := fnOf 3 b_row
def b_condition (F_rec : Fn) : FS := (seqS (asgS (callN 2 F_draw (consA (varF 0) (consA (cF (.int 6)) nilA))) (nameG 3))
      (seqS (ifS (andT (tstF (opF gtG (bvarF 1) (cF (.int 1)))) (tstF (opF ltG (bvarF 3) (cF (.int 2)))))
        (seqS (asgS (opF ixG (tupF (consA (cF (.str "and")) (consA (cF (.str "or")) nilA))) (bvarF 3)) (nameG 3))
        (retS (tupF (consA (varF 3) (consA (callN 3 F_rec (consA (varF 0) (consA (opF subG (bvarF 1) (cF (.int 1))) (consA (varF 2) nilA)))) (consA (callN 3 F_rec (consA (varF 0) (consA (opF subG (bvarF 1) (cF (.int 1))) (consA (varF 2) nilA)))) nilA))))))
        nextS)
      (seqS (ifS (andT (tstF (opF gtG (bvarF 1) (cF (.int 1)))) (tstF (opF (eqG id) (bvarF 3) (cF (.int 2)))))
        (retS (tupF (consA (cF (.str "not")) (consA (callN 3 F_rec (consA (varF 0) (consA (opF subG (bvarF 1) (cF (.int 1))) (consA (varF 2) nilA)))) nilA))))
        nextS)
      (seqS (asgS (callN 2 F_draw (consA (varF 0) (consA (cF (.int 3)) nilA))) (nameG 4))
      (seqS (asgS (callN 2 F_draw (consA (varF 0) (consA (opF addG (cF (.int 8)) (opF mulG (cF (.int 3)) (bvarF 2))) nilA))) (nameG 3))
      (seqS (ifS (tstF (opF ltG (bvarF 3) (cF (.int 4))))
        (retS (tupF (consA (cF (.str "equal")) (consA (varF 4) (consA (callN 2 F_draw (consA (varF 0) (consA (cF (.int 3)) nilA))) nilA)))))
        nextS)
      (seqS (ifS (tstF (opF (eqG id) (bvarF 3) (cF (.int 4))))
        (retS (tupF (consA (cF (.str "below")) (consA (varF 4) (consA (callN 2 F_draw (consA (varF 0) (consA (cF (.int 3)) nilA))) nilA)))))
        nextS)
      (seqS (ifS (tstF (opF ltG (bvarF 3) (cF (.int 7))))
        (retS (tupF (consA (cF (.str "unknown")) (consA (varF 4) nilA))))
        nextS)
      (seqS (ifS (tstF (opF (eqG id) (bvarF 3) (cF (.int 7))))
        (retS (tupF (consA (cF (.str "always")) nilA)))
        nextS)
      (retS (tupF (consA (cF (.str "quotient")) (consA (varF 4) (consA (callN 2 F_draw (consA (varF 0) (consA (cF (.int 3)) nilA))) (consA (callN 2 F_draw (consA (varF 0) (consA (cF (.int 3)) nilA))) nilA)))))))))))))))
def F_condition : Nat → Fn
  | 0 => fun _ _ => .stuck
  | k + 1 => fnOf 5 (b_condition (F_condition k))
def b_Truth_of : FS := (seqS (ifS (tstF (opF (isG id) (bvarF 0) (cF .non)))
        (retS (mkF "Truth" 2 F_Truth_init (consA (cF (.int 1)) nilA)))
        nextS)
      (retS (mkF "Truth" 2 F_Truth_init (consA (ifF (tstF (bvarF 0)) (cF (.int 2)) (cF (.int 0))) nilA))))
def F_Truth_of : Fn := fnOf 1 b_Truth_of
def b_Truth_invert : FS := (retS (mkF "Truth" 2 F_Truth_init (consA (opF subG (cF (.int 2)) (fldF "Truth" "rank" (varF 0))) nilA)))
def F_Truth_invert : Fn := fnOf 1 b_Truth_invert
def b_quotient_value : FS := (seqS (ifS (tstF (opF (eqG id) (bvarF 1) (cF (.int 0))))
        (raiseS "ZeroDivisor" 0 (initF 1 0 fx_ZeroDivisor) nilA)
        nextS)
      (seqS (ifS (orT (tstF (opF (isG id) (bvarF 0) (cF .non))) (tstF (opF (isG id) (bvarF 1) (cF .non))))
        (retS (cF .non))
        nextS)
      (retS (opF (eqG id) (opF divG (bvarF 0) (bvarF 1)) (bvarF 2)))))
def F_quotient_value : Fn := fnOf 3 b_quotient_value
def b_simple_value : FS := (seqS (asgS (opF ixG (bvarF 0) (cF (.int 0))) (nameG 2))
      (seqS (ifS (tstF (opF (eqG id) (bvarF 2) (cF (.str "always"))))
        (retS (cF (.bl true)))
        nextS)
      (seqS (asgS (opF ixG (bvarF 1) (opF ixG (bvarF 0) (cF (.int 1)))) (nameG 3))
      (seqS (ifS (tstF (opF (eqG id) (bvarF 2) (cF (.str "unknown"))))
        (retS (opF (isG id) (bvarF 3) (cF .non)))
        nextS)
      (seqS (ifS (tstF (opF (eqG id) (bvarF 2) (cF (.str "quotient"))))
        (retS (callN 3 F_quotient_value (consA (varF 3) (consA (opF ixG (bvarF 1) (opF ixG (bvarF 0) (cF (.int 2)))) (consA (opF ixG (bvarF 0) (cF (.int 3))) nilA)))))
        nextS)
      (seqS (ifS (tstF (opF (isG id) (bvarF 3) (cF .non)))
        (retS (cF .non))
        nextS)
      (retS (ifF (tstF (opF (eqG id) (bvarF 2) (cF (.str "equal")))) (opF (eqG id) (bvarF 3) (opF ixG (bvarF 0) (cF (.int 2)))) (opF ltG (bvarF 3) (opF ixG (bvarF 0) (cF (.int 2))))))))))))
def F_simple_value : Fn := fnOf 4 b_simple_value
def b_truth (F_rec : Fn) : FS := (seqS (asgS (opF ixG (bvarF 0) (cF (.int 0))) (nameG 2))
      (seqS (ifS (tstF (opF (orOwn "Truth" F_Truth_eq (eqG id)) (bvarF 2) (cF (.str "not"))))
        (retS (unF (ownG1 "Truth" F_Truth_invert) (callN 2 F_rec (consA (opF ixG (bvarF 0) (cF (.int 1))) (consA (varF 1) nilA)))))
        nextS)
      (seqS (ifS (tstF (opF (orOwn "Truth" F_Truth_eq (eqG id)) (bvarF 2) (cF (.str "and"))))
        (seqS (asgS (callN 2 F_rec (consA (opF ixG (bvarF 0) (cF (.int 1))) (consA (varF 1) nilA))) (nameG 3))
        (retS (ifF (tstF (opF (orOwn "Truth" F_Truth_eq (eqG id)) (fldF "Truth" "rank" (varF 3)) (cF (.int 0)))) (varF 3) (opF (ownG "Truth" F_Truth_and) (bvarF 3) (callN 2 F_rec (consA (opF ixG (bvarF 0) (cF (.int 2))) (consA (varF 1) nilA)))))))
        nextS)
      (seqS (ifS (tstF (opF (orOwn "Truth" F_Truth_eq (eqG id)) (bvarF 2) (cF (.str "or"))))
        (seqS (asgS (callN 2 F_rec (consA (opF ixG (bvarF 0) (cF (.int 1))) (consA (varF 1) nilA))) (nameG 3))
        (retS (ifF (tstF (opF (orOwn "Truth" F_Truth_eq (eqG id)) (fldF "Truth" "rank" (varF 3)) (cF (.int 2)))) (varF 3) (opF (ownG "Truth" F_Truth_or) (bvarF 3) (callN 2 F_rec (consA (opF ixG (bvarF 0) (cF (.int 2))) (consA (varF 1) nilA)))))))
        nextS)
      (retS (statF 1 F_Truth_of (consA (callN 2 F_simple_value (consA (varF 0) (consA (varF 1) nilA))) nilA)))))))
def F_truth : Nat → Fn
  | 0 => fun _ _ => .stuck
  | k + 1 => fnOf 4 (b_truth (F_truth k))
def b_Lgroup : FS := (seqS (ifS (tstF (opF (eqG id) (callN 2 (F_Ltruth 10) (consA (opF ixG (bvarF 0) (cF (.int 3))) (consA (varF 1) nilA))) (cF (.int 2))))
        (retS (opF ixG (bvarF 1) (opF ixG (bvarF 0) (cF (.int 2)))))
        nextS)
      (retS (cF .non)))
def F_Lgroup : Fn := fnOf 2 b_Lgroup
def b_Lclash : FS := (seqS (forS (anyI (varF 0)) (nameG 4)
        (ifS (andT (tstF (opF (eqG id) (opF ixG (bvarF 4) (cF (.int 1))) (bvarF 1))) (tstF (opF notNG (callN 2 F_Lgroup (consA (varF 4) (consA (varF 2) nilA))) (cF .non))))
          (ifS (tstF (opF (eqG id) (callN 2 F_Lgroup (consA (varF 4) (consA (varF 2) nilA))) (callN 2 F_Lgroup (consA (varF 4) (consA (varF 3) nilA)))))
            (retS (opF ixG (bvarF 4) (cF (.int 0))))
            nextS)
          nextS))
      (retS (cF (.str ""))))
def F_Lclash : Fn := fnOf 5 b_Lclash
def b_group : FS := (seqS (ifS (ownT "Truth" F_Truth_bool (callN 2 (F_truth 10) (consA (opF ixG (bvarF 0) (cF (.int 3))) (consA (varF 1) nilA))))
        (retS (opF ixG (bvarF 1) (opF ixG (bvarF 0) (cF (.int 2)))))
        nextS)
      (retS (cF .non)))
def F_group : Fn := trim (fnOf 2 b_group)
def b_clash : FS := (seqS (asgS (callN 2 F_group (consA (varF 0) (consA (varF 1) nilA))) (nameG 3))
      (retS (andF (opF notNG (bvarF 3) (cF .non)) (opF (eqG id) (bvarF 3) (callN 2 F_group (consA (varF 0) (consA (varF 2) nilA)))))))
def F_clash : Fn := fnOf 4 b_clash
end
end LB

end
section
set_option Elab.async false
set_option linter.all false
set_option maxRecDepth 100000
set_option maxHeartbeats 4000000
namespace Fu
theorem seq_cases {f g : FS} {η : Sls} {S : AS} {J : Sls → AS → Prop} {Q : PV → AS → Prop} (h1 : (∃ v S', f η S = .rt v S' ∧ Q v S') ∨ ∃ η' S', f η S = .nx η' S' ∧ J η' S') (h2 : ∀ η' S', J η' S' → ∃ v S'', g η' S' = .rt v S'' ∧ Q v S'') : ∃ v S', seqS f g η S = .rt v S' ∧ Q v S' := by
  rcases h1 with ⟨v, S', e, q⟩ | ⟨η', S', e, j⟩
  · exact ⟨v, S', by rw [e_seq, e], q⟩
  · obtain ⟨v, S'', e', q⟩ := h2 η' S' j
    exact ⟨v, S'', by rw [e_seq, e]; exact e', q⟩
theorem fn_of {n : Nat} {b : FS} {ps : List PV} {S : AS} {Q : PV → AS → Prop} (h : ∃ v S', b (ps.map .val ++ List.replicate (n - ps.length) .no) S = .rt v S' ∧ Q v S') : ∃ v S', fnOf n b ps S = .ok v S' ∧ Q v S' := by
  obtain ⟨v, S', e, q⟩ := h
  refine ⟨v, S', ?_, q⟩
  unfold fnOf
  rw [e]
end Fu
namespace LB
open PySem PySem.Spec PyProof.Rows L2 Fu
def boxO (ns : List Int) (i m c g : Int) : Option AO := some (.lst [.lst (ns.map .int), .int i, .int m, .int c, .int g])
/-- the box, as it may be -/
def Bx (o : Option AO) : Prop := ∃ ns i m c g, o = boxO ns i m c g ∧ 0 ≤ i
@[simp] theorem mul_c {a b : Int} (h : -(2 ^ 64) < b ∧ b < 2 ^ 64) : cMul a b = true := by
  unfold cMul
  rw [decide_eq_true h, Bool.or_true]
@[simp] theorem mul_c' {a b : Int} (h : -(2 ^ 64) < a ∧ a < 2 ^ 64) : cMul a b = true := by
  unfold cMul
  rw [decide_eq_true h, Bool.true_or]
@[simp] theorem mod_c {a b : Int} (h : b ≠ 0) : cMod a b = true := decide_eq_true h
@[simp] theorem div_c {a b : Int} (h : b ≠ 0 ∧ b.natAbs < 1073741824) : cDiv a b = true := decide_eq_true h
@[simp] theorem subs_box {fo : FE} {fi : FE} {η : Sls} {p : PV} {xs : List PV} {T : AS} {q : PV} (ho : ∀ S, fo η S = .ok (.ref 0) S) (hi : ∀ S, fi η S = .ok q S) :
    subsG fo fi p η (some (.lst xs) :: T) = (match q with | .int k => (match ixN xs.length k with | some j => .nx η (some (.lst (xs.set j p)) :: T) | none => .stuck) | _ => .stuck) := by
  unfold subsG
  rw [ho, pureR_ok]
  dsimp only
  rw [hi, pureR_ok]
  cases q <;> dsimp only [List.getElem?_cons_zero]
  rfl
theorem draw_spec' {o : Option AO} {T : AS} {n : Int} (h : Bx o) (n0 : 0 < n) (n1 : n < 1073741824) : ∃ v S', F_draw [.ref 0, .int n] (o :: T) = .ok v S' ∧ ∃ r o', v = .int r ∧ S' = o' :: T ∧ Bx o' ∧ 0 ≤ r ∧ r < n := by
  obtain ⟨ns, i, m, c, g, rfl, i0⟩ := h
  unfold F_draw
  refine fn_of ?_
  unfold b_draw
  have nz : n ≠ 0 := by omega
  have nn : n.natAbs < 1073741824 := by omega
  refine seq_cases (J := fun η S => η = [.val (.ref 0), .val (.int n), .no, .no] ∧ ∃ i m c g, S = boxO ns i m c g :: T ∧ 0 ≤ i) ?_ ?_
  · by_cases hc : c = 0
    · by_cases hi : (ns.length : Int) ≤ i
      · refine .inl ?_
        simp [boxO, hc, hi]
        exact ⟨_, _, ⟨rfl, rfl⟩, 0, rfl, _, rfl, ⟨ns, i, m, 0, g, rfl, i0⟩, by omega, n0⟩
      · refine .inr ?_
        obtain ⟨k, rfl⟩ : ∃ k : Nat, i = k := ⟨i.toNat, by omega⟩
        have hv : atI (ns.map PV.int) (k : Int) = some (.int (ns[k]'(by omega))) := by
          rw [at_nat, List.getElem?_map, List.getElem?_eq_getElem (by omega)]
          rfl
        have hp : cPow 10 18 = true := by decide
        simp [boxO, hc, hi, hv, hp, ixN, geG]
        exact ⟨_, _, ⟨rfl, rfl⟩, rfl, _, ⟨_, _, _, rfl⟩, by omega⟩
    · refine .inr ?_
      simp [boxO, hc]
      exact ⟨_, _, ⟨rfl, rfl⟩, rfl, i, ⟨_, _, _, rfl⟩, i0⟩
  · rintro η S ⟨rfl, i, m, c, g, rfl, i0⟩
    by_cases hg : g = 1
    · by_cases hd : m.fdiv n = 0
      · simp [boxO, hg, nz, nn, ixN, hd]
        exact ⟨_, _, ⟨rfl, rfl⟩, _, rfl, _, rfl, ⟨ns, i, _, _, _, rfl, i0⟩, Int.fmod_nonneg_of_pos _ n0, Int.fmod_lt_of_pos _ n0⟩
      · simp [boxO, hg, nz, nn, ixN, hd]
        exact ⟨_, _, ⟨rfl, rfl⟩, _, rfl, _, rfl, ⟨ns, i, _, _, _, rfl, i0⟩, Int.fmod_nonneg_of_pos _ n0, Int.fmod_lt_of_pos _ n0⟩
    · simp [boxO, hg, nz, nn, ixN]
      exact ⟨_, _, ⟨rfl, rfl⟩, _, rfl, _, rfl, ⟨ns, i, _, _, _, rfl, i0⟩, Int.fmod_nonneg_of_pos _ n0, Int.fmod_lt_of_pos _ n0⟩
theorem draw_spec {o : Option AO} {T : AS} {n : Int} (h : Bx o) (n0 : 0 < n) (n1 : n < 1073741824) : ∃ r o', F_draw [.ref 0, .int n] (o :: T) = .ok (.int r) (o' :: T) ∧ Bx o' ∧ 0 ≤ r ∧ r < n := by
  obtain ⟨v, S', e, r, o', rfl, rfl, h⟩ := draw_spec' h n0 n1
  exact ⟨r, o', e, h⟩
/-- drawing a place in a list -/
theorem draw_nat {o : Option AO} {T : AS} {n : Nat} (h : Bx o) (n0 : 0 < n) (n1 : n < 1073741824) : ∃ (r : Nat) (o' : Option AO), F_draw [.ref 0, .int n] (o :: T) = .ok (.int r) (o' :: T) ∧ Bx o' ∧ r < n := by
  obtain ⟨r, o', e, b, r0, r1⟩ := draw_spec (n := (n : Int)) (T := T) h (by omega) (by omega)
  refine ⟨r.toNat, o', ?_, b, by omega⟩
  rw [e, Int.toNat_of_nonneg r0]
theorem pick_spec {o : Option AO} {T : AS} {xs : List PV} (h : Bx o) (n0 : 0 < xs.length) (n1 : xs.length < 1073741824) : ∃ p o', F_pick [.ref 0, .lst xs] (o :: T) = .ok p (o' :: T) ∧ Bx o' ∧ p ∈ xs := by
  obtain ⟨r, o', e, b, hr⟩ := draw_nat (T := T) h n0 n1
  refine ⟨xs[r], o', ?_, b, List.getElem_mem _⟩
  unfold F_pick fnOf b_pick
  simp [e, at_nat, hr]
end LB

end
section
set_option Elab.async false
set_option linter.all false
set_option maxRecDepth 100000
set_option maxHeartbeats 4000000
namespace LB
open PySem PySem.Spec PyProof.Rows L2 Fu
def alks (f : PV → PV → Bool) : List PV → List PV → Bool
  | [], [] => true
  | x :: xs, y :: ys => f x y && alks f xs ys
  | _, _ => false
def alk : Nat → PV → PV → Bool
  | 0 => fun _ _ => false
  | k + 1 => fun p q => match p, q with
    | .non, .non => true
    | .bl a, .bl b => a == b
    | .int a, .int b => a == b
    | .str a, .str b => decide (a = b)
    | .tup xs, .tup ys => alks (alk k) xs ys && decide (ys.length < 1000000)
    | .ktu xs, .tup ys => alks (alk k) xs ys && decide (ys.length < 1000000)
    | .lst xs, .lst ys => alks (alk k) xs ys && decide (ys.length < 1000000)
    | _, _ => false
theorem alks_len {f : PV → PV → Bool} : ∀ {xs ys : List PV}, alks f xs ys = true → xs.length = ys.length
  | [], [], _ => rfl
  | x :: xs, y :: ys, h => by
    unfold alks at h
    rw [Bool.and_eq_true] at h
    exact congrArg Nat.succ (alks_len h.2)
  | [], _ :: _, h => by cases h
  | _ :: _, [], h => by cases h
theorem alks_at {f : PV → PV → Bool} : ∀ {xs ys : List PV}, alks f xs ys = true → ∀ (i : Nat) x y, xs[i]? = some x → ys[i]? = some y → f x y = true
  | [], _, _, _, _, _, e, _ => by cases e
  | x :: xs, [], h, _, _, _, _, _ => by cases h
  | x :: xs, y :: ys, h, i, a, b, ea, eb => by
    unfold alks at h
    rw [Bool.and_eq_true] at h
    cases i with
    | zero => cases ea; cases eb; exact h.1
    | succ i => exact alks_at h.2 i a b ea eb
theorem alks_of {f : PV → PV → Bool} : ∀ {xs : List PV}, (∀ x ∈ xs, f x x = true) → alks f xs xs = true
  | [], _ => rfl
  | x :: xs, h => by
    unfold alks
    rw [h x List.mem_cons_self, alks_of fun y hy => h y (List.mem_cons_of_mem _ hy)]
    rfl
theorem alks_app {f : PV → PV → Bool} : ∀ {xs ys us vs : List PV}, alks f xs ys = true → alks f us vs = true → alks f (xs ++ us) (ys ++ vs) = true
  | [], [], _, _, _, h => h
  | x :: xs, y :: ys, us, vs, h, h2 => by
    unfold alks at h
    rw [Bool.and_eq_true] at h
    show (f x y && alks f (xs ++ us) (ys ++ vs)) = true
    rw [h.1, alks_app h.2 h2]
    rfl
  | [], _ :: _, _, _, h, _ => by cases h
  | _ :: _, [], _, _, h, _ => by cases h
theorem alike_loop {fr : Fn} {p q : PV} {xs ys : List PV} {S : AS} {z : Sl} (hx : ∀ k : Int, ixG p (.int k) S = ofO (atI xs k) S) (hy : ∀ k : Int, ixG q (.int k) S = ofO (atI ys k) S) (hl : xs.length = ys.length)
    (h : ∀ (i : Nat) x y, xs[i]? = some x → ys[i]? = some y → fr [x, y] S = .ok (.bl true) S) :
    ∃ η', forL (nameG 2) (ifS (notT (tstF (callN 2 fr (consA (opF ixG (bvarF 0) (bvarF 2)) (consA (opF ixG (bvarF 1) (bvarF 2)) nilA))))) (retS (cF (.bl false))) nextS) (rangeL 0 ys.length) [.val p, .val q, z] S = .nx η' S := by
  obtain ⟨η', S', e, rfl, _⟩ := forL_nx (g := nameG 2) (b := ifS (notT (tstF (callN 2 fr (consA (opF ixG (bvarF 0) (bvarF 2)) (consA (opF ixG (bvarF 1) (bvarF 2)) nilA))))) (retS (cF (.bl false))) nextS) (fun _ η S' => S' = S ∧ ∃ z, η = [.val p, .val q, z]) (rangeL 0 ys.length) [.val p, .val q, z] S (fun i r η S' e hi => by
    obtain ⟨rfl, z, rfl⟩ := hi
    unfold rangeL at e
    rw [List.getElem?_map] at e
    have hi : i < ys.length := by
      by_cases hi : i < ys.length
      · exact hi
      · rw [List.getElem?_eq_none (by simp; omega)] at e
        cases e
    rw [List.getElem?_range hi] at e
    cases e
    refine ⟨_, _, e_nameG, [.val p, .val q, .val (.int (0 + (i : Int)))], _, ?_, rfl, _, rfl⟩
    have ex : xs[i]? = some xs[i] := List.getElem?_eq_getElem (by omega)
    have ey : ys[i]? = some ys[i] := List.getElem?_eq_getElem hi
    simp [hx, hy, at_nat, ex, ey, h i _ _ ex ey]) ⟨rfl, z, rfl⟩
  exact ⟨η', e⟩
theorem _root_.Fu.seq_nx {f g : FS} {η : Sls} {S : AS} (η' : Sls) (S' : AS) (h : f η S = .nx η' S') : seqS f g η S = g η' S' := by rw [e_seq, h]
theorem _root_.Fu.fn_rt {n : Nat} {b : FS} {ps : List PV} {S S' : AS} {v : PV} (h : b (ps.map .val ++ List.replicate (n - ps.length) .no) S = .rt v S') : fnOf n b ps S = .ok v S' := by
  unfold fnOf
  rw [h]
theorem alike_seq {k : Nat} {p q : PV} {xs ys : List PV} {S : AS} {t : String} (ht : t = "tuple" ∨ t = "list") (tp : tyN p S = some t) (tq : tyN q S = some t) (nq : Fu.isNon q = false) (b1 : Fu.isBl true q = false) (b2 : Fu.isBl false q = false) (l1 : lenG [p] S = .ok (.int xs.length) S) (l2 : lenG [q] S = .ok (.int ys.length) S) (hx : ∀ k : Int, ixG p (.int k) S = ofO (atI xs k) S) (hy : ∀ k : Int, ixG q (.int k) S = ofO (atI ys k) S)
    (hl : xs.length = ys.length) (hs : ys.length < 1000000)
    (h : ∀ (i : Nat) x y, xs[i]? = some x → ys[i]? = some y → F_alike k [x, y] S = .ok (.bl true) S) : F_alike (k + 1) [p, q] S = .ok (.bl true) S := by
  obtain ⟨η', e4⟩ := alike_loop (z := .no) hx hy hl h
  have e2 : RngP (ys.length : Int) := rng_ok (by omega)
  unfold F_alike
  refine fn_rt ?_
  unfold b_alike
  refine (seq_nx [.val p, .val q, .no] S (by simp [nq])).trans ?_
  refine (seq_nx [.val p, .val q, .no] S (by simp [b1, b2])).trans ?_
  refine (seq_nx [.val p, .val q, .no] S (by rcases ht with rfl | rfl <;> simp [isiG, tq, Fu.isT])).trans ?_
  refine (seq_nx [.val p, .val q, .no] S (by rcases ht with rfl | rfl <;> simp [isiG, tq, Fu.isT])).trans ?_
  refine (seq_nx [.val p, .val q, .no] S (by rcases ht with rfl | rfl <;> simp [isiG, tq, tp, Fu.isT, l1, l2, hl])).trans ?_
  refine (seq_nx η' S (by simp [e2, e4, l2])).trans ?_
  rfl
theorem alike_step {k : Nat} (ih : ∀ (p q : PV) (S : AS), alk k p q = true → F_alike k [p, q] S = .ok (.bl true) S) (p q : PV) (S : AS) (h : alk (k + 1) p q = true) : F_alike (k + 1) [p, q] S = .ok (.bl true) S := by
  have at2 : ∀ {xs ys : List PV}, (alks (alk k) xs ys && decide (ys.length < 1000000)) = true → xs.length = ys.length ∧ ys.length < 1000000 ∧ ∀ (i : Nat) x y, xs[i]? = some x → ys[i]? = some y → F_alike k [x, y] S = .ok (.bl true) S := fun h => by
    rw [Bool.and_eq_true] at h
    exact ⟨alks_len h.1, of_decide_eq_true h.2, fun i x y ex ey => ih x y S (alks_at h.1 i x y ex ey)⟩
  unfold alk at h
  split at h
  · unfold F_alike fnOf b_alike
    simp [Fu.isNon]
  · rename_i a b
    have h : a = b := by simpa using h
    subst h
    unfold F_alike fnOf b_alike
    cases a <;> simp [Fu.isNon, Fu.isBl, isiG, tyN, Fu.isT]
  · rename_i a b
    have h : a = b := by simpa using h
    subst h
    unfold F_alike fnOf b_alike
    simp [Fu.isNon, Fu.isBl, isiG, tyN, Fu.isT]
  · rename_i a b
    have h : a = b := by simpa using h
    subst h
    unfold F_alike fnOf b_alike
    simp [Fu.isNon, Fu.isBl, isiG, tyN, Fu.isT]
  · obtain ⟨e1, e2, e3⟩ := at2 h
    exact alike_seq (.inl rfl) rfl rfl rfl rfl rfl rfl rfl (fun _ => g_ixT) (fun _ => g_ixT) e1 e2 e3
  · obtain ⟨e1, e2, e3⟩ := at2 h
    exact alike_seq (.inl rfl) rfl rfl rfl rfl rfl rfl rfl (fun _ => g_ixK) (fun _ => g_ixT) e1 e2 e3
  · obtain ⟨e1, e2, e3⟩ := at2 h
    exact alike_seq (.inr rfl) rfl rfl rfl rfl rfl rfl rfl (fun _ => g_ixL) (fun _ => g_ixL) e1 e2 e3
  · cases h
theorem alike_ok : ∀ (k : Nat) (p q : PV) (S : AS), alk k p q = true → F_alike k [p, q] S = .ok (.bl true) S
  | 0, _, _, _, h => by cases h
  | k + 1, p, q, S, h => alike_step (alike_ok k) p q S h
theorem len_ref {n : Nat} {xs : List PV} {S : AS} (hS : S[n]? = some (some (.lst xs))) : lenG [.ref n] S = .ok (.int xs.length) S := by
  unfold lenG
  simp [items, hS]
theorem alike_ref {k n : Nat} {xs ys : List PV} {S : AS} (hS : S[n]? = some (some (.lst xs))) (h : alks (alk k) xs ys = true) (hl : ys.length < 1000000) : F_alike (k + 1) [.ref n, .lst ys] S = .ok (.bl true) S :=
  alike_seq (.inr rfl) (by simp [tyN, hS]) rfl rfl rfl rfl (len_ref hS) rfl (fun k => by rw [g_ixR, hS]) (fun _ => g_ixL) (alks_len h) hl fun i x y ex ey => alike_ok k x y S (alks_at h i x y ex ey)
end LB

end
section
set_option Elab.async false
set_option linter.all false
set_option maxRecDepth 100000
set_option maxHeartbeats 4000000
namespace Fu
open PySem PySem.Spec PyProof.Rows L2
theorem seq_ex {f g : FS} {η : Sls} {S : AS} {J : Sls → AS → Prop} {Q : PV → AS → Prop} (h1 : ∃ η' S', f η S = .nx η' S' ∧ J η' S') (h2 : ∀ η' S', J η' S' → ∃ v S'', g η' S' = .rt v S'' ∧ Q v S'') : ∃ v S', seqS f g η S = .rt v S' ∧ Q v S' := by
  obtain ⟨η', S', e, j⟩ := h1
  obtain ⟨v, S'', e', q⟩ := h2 η' S' j
  exact ⟨v, S'', by rw [e_seq, e]; exact e', q⟩
theorem seq_e1 {f g : FS} {η : Sls} {S : AS} {Q : PV → AS → Prop} (η' : Sls) (S' : AS) (h1 : f η S = .nx η' S') (h2 : ∃ v S'', g η' S' = .rt v S'' ∧ Q v S'') : ∃ v S', seqS f g η S = .rt v S' ∧ Q v S' :=
  seq_ex (J := fun η S => η = η' ∧ S = S') ⟨η', S', h1, rfl, rfl⟩ fun _ _ ⟨a, b⟩ => by subst a; subst b; exact h2
theorem seq_n1 {f g : FS} {η : Sls} {S : AS} {Q : Sls → AS → Prop} (η' : Sls) (S' : AS) (h1 : f η S = .nx η' S') (h2 : ∃ v S'', g η' S' = .nx v S'' ∧ Q v S'') : ∃ v S', seqS f g η S = .nx v S' ∧ Q v S' := by
  rw [seq_nx η' S' h1]
  exact h2
theorem seq_nxs {f g : FS} {η : Sls} {S : AS} {J Q : Sls → AS → Prop} (h1 : ∃ η' S', f η S = .nx η' S' ∧ J η' S') (h2 : ∀ η' S', J η' S' → ∃ v S'', g η' S' = .nx v S'' ∧ Q v S'') : ∃ v S', seqS f g η S = .nx v S' ∧ Q v S' := by
  obtain ⟨η', S', e, j⟩ := h1
  rw [seq_nx η' S' e]
  exact h2 η' S' j
theorem rt_e1 {f : FS} {η : Sls} {S : AS} {Q : PV → AS → Prop} (v : PV) (S' : AS) (h1 : f η S = .rt v S') (h2 : Q v S') : ∃ v S', f η S = .rt v S' ∧ Q v S' := ⟨v, S', h1, h2⟩
theorem for_items {fi : FI} {g : FG} {b : FS} {η : Sls} {S S1 : AS} (ps : List PV) (I : Nat → Sls → AS → Prop) (h : fi η S = .ok ps S1) (hs : ∀ (i : Nat) p η S, ps[i]? = some p → I i η S → ∃ η1 S1, g p η S = .nx η1 S1 ∧ ∃ η2 S2, b η1 S1 = .nx η2 S2 ∧ I (i + 1) η2 S2) (h0 : I 0 η S1) :
    ∃ η' S', forS fi g b η S = .nx η' S' ∧ I ps.length η' S' := by
  rw [e_forS, h]
  exact forL_nx I ps η S1 hs h0
theorem for_range {fa : FA} {g : FG} {b : FS} {η : Sls} {S S1 : AS} (j : Nat) (I : Nat → Sls → AS → Prop) (h : fa η S = .ok [.int j] S1) (hj : j ≤ 1000000000) (hs : ∀ (i : Nat) η S, i < j → I i η S → ∃ η1 S1, g (.int i) η S = .nx η1 S1 ∧ ∃ η2 S2, b η1 S1 = .nx η2 S2 ∧ I (i + 1) η2 S2) (h0 : I 0 η S1) :
    ∃ η' S', forS (range1I fa) g b η S = .nx η' S' ∧ I j η' S' := by
  have hr : range1I fa η S = .ok (rangeL 0 j) S1 := by
    rw [e_range1, h]
    have : RngP (j : Int) := rng_ok (by omega)
    simp [this]
  obtain ⟨η', S', e, hi⟩ := for_items (rangeL 0 j) I hr (fun i p η S e hi => by
    unfold rangeL at e
    rw [List.getElem?_map] at e
    have hi2 : i < j := by
      by_cases hi : i < j
      · exact hi
      · rw [List.getElem?_eq_none (by simp; omega)] at e
        cases e
    rw [List.getElem?_range hi2] at e
    cases e
    have := hs i η S hi2 hi
    simpa using this) h0
  refine ⟨η', S', e, ?_⟩
  unfold rangeL at hi
  simpa using hi
end Fu

end
section
set_option Elab.async false
set_option linter.all false
set_option maxRecDepth 100000
set_option maxHeartbeats 4000000
namespace LB
open PySem PySem.Spec PyProof.Rows L2 Fu
/-- an ordinary text -/
def Gs (z : Str) : Prop := ∀ c ∈ z.cps.toList, c < 0x110000
theorem app_cps (a b : Str) : (a ++ b).cps.toList = a.cps.toList ++ b.cps.toList := by
  show (a.cps ++ b.cps).toList = _
  simp
theorem app_len (a b : Str) : (a ++ b).length = a.length + b.length := by
  show (a.cps ++ b.cps).size = a.cps.size + b.cps.size
  simp
def Tx (x : PV) : Prop := ∃ z : Str, x = .str z ∧ Gs z
def lets : Str := "abcdefghijklmnopqrstuvwxyz"
theorem lets_l : lets.cps.toList = List.range' 97 26 := by decide +kernel
theorem lets_n : lets.length = 26 := by decide +kernel
theorem pigeon {α : Type} [DecidableEq α] : ∀ {l m : List α}, l.Nodup → (∀ x ∈ l, x ∈ m) → l.length ≤ m.length
  | [], _, _, _ => Nat.zero_le _
  | x :: l, m, hn, hs => by
    have hx : x ∈ m := hs x List.mem_cons_self
    rw [List.nodup_cons] at hn
    have := pigeon (l := l) (m := m.erase x) hn.2 fun y hy => (List.mem_erase_of_ne fun e => hn.1 (by rw [← e]; exact hy)).mpr (hs y (List.mem_cons_of_mem _ hy))
    rw [List.length_erase_of_mem hx] at this
    have : 0 < m.length := List.length_pos_of_mem hx
    simp only [List.length_cons]
    omega
theorem mem_iff {z : Str} {xs : List Str} : mem (.str z) (xs.map .str) = decide (z ∈ xs) := by
  unfold mem
  rw [Bool.eq_iff_iff, decide_eq_true_eq, List.any_map, List.any_eq_true]
  constructor
  · rintro ⟨q, hq, e⟩
    simp [eqF] at e
    rw [← e]
    exact hq
  · intro h
    exact ⟨z, h, by simp [eqF]⟩
def one (c : Nat) : Str := ⟨#[c]⟩
theorem free_pos {z : Str} {xs : List Str} (hl : xs.length ≤ 25) : 0 < ((lets.cps.toList.map one).filter fun s => !decide (z ++ s ∈ xs)).length := by
  by_cases h : 0 < ((lets.cps.toList.map one).filter fun s => !decide (z ++ s ∈ xs)).length
  · exact h
  · have h0 : (lets.cps.toList.map one).filter (fun s => !decide (z ++ s ∈ xs)) = [] := List.length_eq_zero_iff.mp (by omega)
    rw [List.filter_eq_nil_iff] at h0
    have : ((lets.cps.toList.map one).map (z ++ ·)).length ≤ xs.length := pigeon (by
      rw [List.map_map, lets_l]
      refine List.Pairwise.map _ (fun a b ne e => ne ?_) (List.nodup_range' (step := 1) (by omega))
      have e2 := congrArg (fun s : Str => s.cps.toList) e
      simp only [Function.comp, app_cps] at e2
      have e3 := List.append_cancel_left e2
      simpa [one] using e3) fun y hy => by
        obtain ⟨s, hs, rfl⟩ := List.mem_map.mp hy
        have := h0 s hs
        simpa using this
    rw [List.length_map, List.length_map, lets_l, List.length_range'] at this
    omega
theorem one_of {x : PV} (h : x ∈ lets.cps.toList.map fun c => PV.str ⟨#[c]⟩) : ∃ c, x = .str (one c) ∧ c < 0x110000 := by
  obtain ⟨c, hc, rfl⟩ := List.mem_map.mp h
  refine ⟨c, rfl, ?_⟩
  rw [lets_l, List.mem_range'] at hc
  omega
/-- a name -/
def Nm (z : Str) : Prop := Gs z ∧ z ≠ ""
theorem names_spec' {o : Option AO} {T : AS} (n : Nat) (hn : n ≤ 20) (h : Bx o) : ∃ v S', F_names [.ref 0, .int n] (o :: T) = .ok v S' ∧ ∃ (o' : Option AO) (xs : List Str), v = .lst (xs.map PV.str) ∧ S' = o' :: T ∧ Bx o' ∧ xs.length = n ∧ (∀ x ∈ xs, Nm x) ∧ xs.Nodup := by
  unfold F_names
  refine fn_of ?_
  unfold b_names
  show ∃ v S', seqS (asgS (cF (.str lets)) (nameG 2)) _ _ _ = _ ∧ _
  refine seq_e1 [.val (.ref 0), .val (.int n), .val (.str lets), .no, .no, .no, .no, .no, .no] (o :: T) (by simp) ?_
  refine seq_e1 [.val (.ref 0), .val (.int n), .val (.str lets), .own [], .no, .no, .no, .no, .no] (o :: T) (by simp) ?_
  refine seq_ex (for_range n (fun i η S => ∃ (o : Option AO) (xs : List Str) (z4 z5 z6 z7 z8 : Sl), η = [.val (.ref 0), .val (.int n), .val (.str lets), .own (xs.map PV.str), z4, z5, z6, z7, z8] ∧ S = o :: T ∧ Bx o ∧ xs.length = i ∧ (∀ x ∈ xs, Nm x) ∧ xs.Nodup) (S1 := o :: T) (by simp) (by omega) (fun i η S hi ⟨o, xs, z4, z5, z6, z7, z8, h1, h2, h3, h4, h5, hnd⟩ => ?_) ⟨o, [], _, _, _, _, _, rfl, rfl, h, rfl, by simp, List.nodup_nil⟩) ?_
  · subst h1
    subst h2
    refine ⟨_, _, e_nameG, ?_⟩
    show ∃ η2 S2, seqS _ _ [.val (.ref 0), .val (.int n), .val (.str lets), .own (xs.map PV.str), .val (.int i), z5, z6, z7, z8] (o :: T) = .nx η2 S2 ∧ _
    refine seq_n1 [.val (.ref 0), .val (.int n), .val (.str lets), .own (xs.map PV.str), .val (.int i), .val (.str ""), z6, z7, z8] (o :: T) (by simp) ?_
    obtain ⟨m, o1, e1, b1, hm⟩ := draw_nat (T := T) (n := 8) h3 (by omega) (by omega)
    have e1 : F_draw [.ref 0, .int 8] (o :: T) = .ok (.int m) (o1 :: T) := e1
    refine seq_nxs (for_range m (fun j η S => ∃ (o : Option AO) (z : Str) (z6 : Sl), η = [.val (.ref 0), .val (.int n), .val (.str lets), .own (xs.map PV.str), .val (.int i), .val (.str z), z6, z7, z8] ∧ S = o :: T ∧ Bx o ∧ z.length = j ∧ Gs z) (S1 := o1 :: T) (by simp [e1]) (by omega) (fun j η S hj ⟨o, z, z6, h1, h2, h3, h4, h5⟩ => ?_) ⟨o1, "", _, rfl, rfl, b1, by decide, fun c hc => by simp [show ("" : Str).cps.toList = [] by decide] at hc⟩) ?_
    · subst h1
      subst h2
      obtain ⟨r, o2, e2, b2, hr⟩ := draw_nat (T := T) (n := 26) h3 (by omega) (by omega)
      have hl : r < lets.cps.toList.length := by rw [lets_l, List.length_range']; exact hr
      have hg : lets.cps.toList[r] < 0x110000 := by
        have : lets.cps.toList[r] ∈ lets.cps.toList := List.getElem_mem _
        generalize lets.cps.toList[r] = q at this
        rw [lets_l, List.mem_range'] at this
        omega
      refine ⟨_, _, e_nameG, [.val (.ref 0), .val (.int n), .val (.str lets), .own (xs.map PV.str), .val (.int i), .val (.str (z ++ one lets.cps.toList[r])), .val (.int j), z7, z8], o2 :: T, ?_, o2, _, _, rfl, rfl, b2, ?_, ?_⟩
      · have e2' : F_draw [.ref 0, .int 26] (o :: T) = .ok (.int r) (o2 :: T) := e2
        have hx : ixG (.str lets) (.int r) (o2 :: T) = .ok (.str (one lets.cps.toList[r])) (o2 :: T) := by
          unfold ixG
          simp only [lets_n, at_nat, List.getElem?_eq_getElem hl]
          rfl
        have hz : z.length + (one lets.cps.toList[r]).length ≤ 1000000 := by
          show z.length + 1 ≤ 1000000
          omega
        generalize lets.cps.toList[r] = q at hx hz
        simp [e2', hx, hz]
      · rw [app_len, h4]
        rfl
      · intro c hc
        rw [app_cps, List.mem_append] at hc
        rcases hc with hc | hc
        · exact h5 c hc
        · simp [one] at hc
          rw [hc]
          exact hg
    · rintro η S ⟨o2, z, z6, rfl, rfl, b2, hz, gz⟩
      have hw : ∀ S, anyI (varF 2) ((([.val (.ref 0), .val (.int n), .val (.str lets), .own (xs.map PV.str), .val (.int i), .val (.str z), z6, z7, z8] : Sls))) S = .ok (lets.cps.toList.map fun c => .str ⟨#[c]⟩) S := fun S => by simp [witems]
      obtain ⟨ex, hx0⟩ : ∃ ex : List Str, ex = xs ++ (["on", "set", "new"] : List Str) := ⟨_, rfl⟩
      have hex : xs.map PV.str ++ [.str "on", .str "set", .str "new"] = ex.map PV.str := by rw [hx0]; simp
      have hfl : (ex.map PV.str).all flat = true := by simp [flat]
      have hc := compL_map (g := nameX 8) (t := tstF (opF (inW true) (opF addG (bvarF 5) (bvarF 8)) (opF addG (bvarF 3) (valN (lstN (consA (cF (.str "on")) (consA (cF (.str "set")) (consA (cF (.str "new")) nilA)))))))) (e := varF 8) (η := [.val (.ref 0), .val (.int n), .val (.str lets), .own (xs.map PV.str), .val (.int i), .val (.str z), z6, z7, .no]) (S := o2 :: T)
        (fun p => match p with | .str s => !decide (z ++ s ∈ ex) | _ => false) id (lets.cps.toList.map fun c => .str ⟨#[c]⟩) [] (fun p hp => by
          obtain ⟨c, rfl, hc⟩ := one_of hp
          refine ⟨_, e_nameX, ?_, fun _ => ?_⟩
          · have h1 : z.length + (one c).length ≤ 1000000 := by
              show z.length + 1 ≤ 1000000
              omega
            have h2 : xs.length + 3 ≤ 1000000 := by omega
            simp [h1, h2]
            rw [hex, inW_lst (by rw [hfl]; rfl), mem_iff]
            simp
          · simp) (by simp [lets_l])
      let cnd : PV → Bool := fun p => match p with | .str s => !decide (z ++ s ∈ ex) | _ => false
      obtain ⟨fs, hfs⟩ : ∃ fs : List Str, fs = (lets.cps.toList.map one).filter fun s => !decide (z ++ s ∈ ex) := ⟨_, rfl⟩
      have hff : ([] : List PV) ++ ((lets.cps.toList.map fun c => PV.str ⟨#[c]⟩).filter cnd).map id = fs.map PV.str := by
        rw [hfs, show (lets.cps.toList.map fun c => PV.str ⟨#[c]⟩) = (lets.cps.toList.map one).map PV.str by rw [List.map_map]; rfl, List.filter_map]
        simp
        rfl
      have hc : compL (nameX 8) (tstF (opF (inW true) (opF addG (bvarF 5) (bvarF 8)) (opF addG (bvarF 3) (valN (lstN (consA (cF (.str "on")) (consA (cF (.str "set")) (consA (cF (.str "new")) nilA)))))))) (varF 8) (lets.cps.toList.map fun c => .str ⟨#[c]⟩) [] [.val (.ref 0), .val (.int n), .val (.str lets), .own (xs.map PV.str), .val (.int i), .val (.str z), z6, z7, .no] (o2 :: T) = .ok (fs.map PV.str) (o2 :: T) := hc.trans (congrArg (fun l => R.ok l _) hff)
      refine seq_n1 [.val (.ref 0), .val (.int n), .val (.str lets), .own (xs.map PV.str), .val (.int i), .val (.str z), z6, .val (.lst (fs.map PV.str)), z8] (o2 :: T) (by
        simp only [e_asg, e_valN, e_compN, hw, R.bind_ok]
        show lift ((R.bind (compL _ _ _ _ [] [.val (.ref 0), .val (.int n), .val (.str lets), .own (xs.map PV.str), .val (.int i), .val (.str z), z6, z7, .no] (o2 :: T)) _)) _ _ = _
        rw [hc]
        simp) ?_
      have hp : 0 < fs.length := by rw [hfs]; exact free_pos (by rw [hx0]; simp; omega)
      have hq : fs.length ≤ 26 := by
        rw [hfs]
        refine Nat.le_trans (List.length_filter_le ..) ?_
        simp [lets_l]
      obtain ⟨r, o3, e3, b3, hr⟩ := draw_nat (T := T) (n := fs.length) b2 hp (by omega)
      have hm : fs[r] ∈ fs := List.getElem_mem _
      have hnew : z ++ fs[r] ∉ xs := by
        generalize fs[r] = q at hm
        rw [hfs, List.mem_filter] at hm
        have h6 := hm.2
        simp only [Bool.not_eq_true', decide_eq_false_iff_not, hx0, List.mem_append, not_or] at h6
        exact h6.1
      have hz2 : z.length + fs[r].length ≤ 1000000 ∧ Gs fs[r] ∧ fs[r].length = 1 := by
        generalize fs[r] = q at hm
        rw [hfs, List.mem_filter, List.mem_map] at hm
        obtain ⟨⟨c, hc, rfl⟩, _⟩ := hm
        rw [lets_l, List.mem_range'] at hc
        refine ⟨by show z.length + 1 ≤ 1000000; omega, fun d hd => ?_, rfl⟩
        simp [one] at hd
        omega
      have hg : (fs.map PV.str)[r]? = some (.str fs[r]) := by rw [List.getElem?_map, List.getElem?_eq_getElem hr]; rfl
      refine ⟨[.val (.ref 0), .val (.int n), .val (.str lets), .own (xs.map PV.str ++ [.str (z ++ fs[r])]), .val (.int i), .val (.str z), z6, .val (.lst (fs.map PV.str)), z8], o3 :: T, ?_, o3, xs ++ [z ++ fs[r]], .val (.int i), .val (.str z), z6, .val (.lst (fs.map PV.str)), z8, by simp, rfl, b3, by simp [h4], ?_, List.nodup_append.mpr ⟨hnd, by simp, fun a ha b hb => by rw [List.mem_singleton.mp hb]; exact fun e => hnew (e ▸ ha)⟩⟩
      · have h1 : z.length + fs[r].length ≤ 1000000 := hz2.1
        generalize fs[r] = q at hg h1
        have e3 : F_draw [.ref 0, .int fs.length] (o2 :: T) = .ok (.int r) (o3 :: T) := e3
        simp [e3, at_nat, hg, h1, show xs.length < 1000000 by omega]
      · intro x hx
        rw [List.mem_append] at hx
        rcases hx with hx | hx
        · exact h5 x hx
        · rw [List.mem_singleton] at hx
          subst hx
          refine ⟨fun c hc => ?_, fun e => ?_⟩
          · rw [app_cps, List.mem_append] at hc
            exact hc.elim (gz c) (hz2.2.1 c)
          · have := congrArg Str.length e
            rw [app_len, hz2.2.2] at this
            have h0 : ("" : Str).length = 0 := by decide
            omega
  · rintro η S ⟨o, xs, z4, z5, z6, z7, z8, rfl, rfl, h3, h4, h5, hnd⟩
    exact rt_e1 (.lst (xs.map PV.str)) (o :: T) (by simp) ⟨o, xs, rfl, rfl, h3, h4, h5, hnd⟩
theorem names_spec {o : Option AO} {T : AS} (n : Nat) (hn : n ≤ 20) (h : Bx o) : ∃ (o' : Option AO) (xs : List Str), F_names [.ref 0, .int n] (o :: T) = .ok (.lst (xs.map PV.str)) (o' :: T) ∧ Bx o' ∧ xs.length = n ∧ (∀ x ∈ xs, Nm x) ∧ xs.Nodup := by
  obtain ⟨v, S', e, o', xs, rfl, rfl, h2⟩ := names_spec' (T := T) n hn h
  exact ⟨o', xs, e, h2⟩
/-- one of four: nothing, 0, 1, 2 -/
def Cell (p : PV) : Prop := p = .non ∨ p = .int 0 ∨ p = .int 1 ∨ p = .int 2
def Rw (p : PV) : Prop := ∃ a b c, p = .tup [a, b, c] ∧ Cell a ∧ Cell b ∧ Cell c
theorem cell_drawn {r : Int} (h0 : 0 ≤ r) (h1 : r < 6) : ∃ p, atI [PV.non, .int 0, .int 1, .int 2, .int 0, .int 1] r = some p ∧ Cell p := by
  obtain ⟨k, rfl⟩ : ∃ k : Nat, r = k := ⟨r.toNat, by omega⟩
  have hk : k < 6 := by omega
  rw [at_nat]
  match k, hk with
  | 0, _ => exact ⟨_, rfl, .inl rfl⟩
  | 1, _ => exact ⟨_, rfl, .inr (.inl rfl)⟩
  | 2, _ => exact ⟨_, rfl, .inr (.inr (.inl rfl))⟩
  | 3, _ => exact ⟨_, rfl, .inr (.inr (.inr rfl))⟩
  | 4, _ => exact ⟨_, rfl, .inr (.inl rfl)⟩
  | 5, _ => exact ⟨_, rfl, .inr (.inr (.inl rfl))⟩
theorem row_spec' {o : Option AO} {T : AS} (h : Bx o) : ∃ v S', F_row [.ref 0] (o :: T) = .ok v S' ∧ ∃ (o' : Option AO), Rw v ∧ S' = o' :: T ∧ Bx o' := by
  unfold F_row
  refine fn_of ?_
  unfold b_row
  refine seq_e1 [.val (.ref 0), .val (.tup []), .no] (o :: T) (by simp) ?_
  refine seq_ex (for_range 3 (fun i η S => ∃ (o : Option AO) (xs : List PV) (z : Sl), η = [.val (.ref 0), .val (.tup xs), z] ∧ S = o :: T ∧ Bx o ∧ xs.length = i ∧ ∀ x ∈ xs, Cell x) (S1 := o :: T) (by simp) (by omega) (fun i η S hi ⟨o, xs, z, h1, h2, h3, h4, h5⟩ => ?_) ⟨o, [], _, rfl, rfl, h, rfl, by simp⟩) ?_
  · subst h1
    subst h2
    obtain ⟨r, o1, e1, b1, r0, r1⟩ := draw_spec (T := T) (n := 6) h3 (by omega) (by omega)
    obtain ⟨p, hp, hc⟩ := cell_drawn r0 r1
    refine ⟨_, _, e_nameG, [.val (.ref 0), .val (.tup (xs ++ [p])), .val (.int i)], o1 :: T, (by simp [e1, hp, show xs.length + 1 ≤ 1000000 by omega]), o1, xs ++ [p], _, rfl, rfl, b1, by simp [h4], fun x hx => ?_⟩
    rw [List.mem_append] at hx
    rcases hx with hx | hx
    · exact h5 x hx
    · rw [List.mem_singleton.mp hx]; exact hc
  · rintro η S ⟨o, xs, z, rfl, rfl, h3, h4, h5⟩
    refine rt_e1 (.tup xs) (o :: T) (by simp) ⟨o, ?_, rfl, h3⟩
    match xs, h4, h5 with
    | [a, b, c], _, h5 => exact ⟨a, b, c, rfl, h5 a (by simp), h5 b (by simp), h5 c (by simp)⟩
theorem row_spec {o : Option AO} {T : AS} (h : Bx o) : ∃ (v : PV) (o' : Option AO), F_row [.ref 0] (o :: T) = .ok v (o' :: T) ∧ Rw v ∧ Bx o' := by
  obtain ⟨v, S', e, o', h1, rfl, h2⟩ := row_spec' (T := T) h
  exact ⟨v, o', e, h1, h2⟩
end LB

end
section
set_option Elab.async false
set_option linter.all false
set_option maxRecDepth 100000
set_option maxHeartbeats 4000000
namespace LB
open PySem PySem.Spec PyProof.Rows L2 Fu
@[simp] theorem w_always_not : (("always" : Str) = "not") = False := eq_false (by decide)
@[simp] theorem w_always_and : (("always" : Str) = "and") = False := eq_false (by decide)
@[simp] theorem w_always_or : (("always" : Str) = "or") = False := eq_false (by decide)
@[simp] theorem w_always_quotient : (("always" : Str) = "quotient") = False := eq_false (by decide)
@[simp] theorem w_always_unknown : (("always" : Str) = "unknown") = False := eq_false (by decide)
@[simp] theorem w_always_equal : (("always" : Str) = "equal") = False := eq_false (by decide)
@[simp] theorem w_always_below : (("always" : Str) = "below") = False := eq_false (by decide)
@[simp] theorem w_not_always : (("not" : Str) = "always") = False := eq_false (by decide)
@[simp] theorem w_not_and : (("not" : Str) = "and") = False := eq_false (by decide)
@[simp] theorem w_not_or : (("not" : Str) = "or") = False := eq_false (by decide)
@[simp] theorem w_not_quotient : (("not" : Str) = "quotient") = False := eq_false (by decide)
@[simp] theorem w_not_unknown : (("not" : Str) = "unknown") = False := eq_false (by decide)
@[simp] theorem w_not_equal : (("not" : Str) = "equal") = False := eq_false (by decide)
@[simp] theorem w_not_below : (("not" : Str) = "below") = False := eq_false (by decide)
@[simp] theorem w_and_always : (("and" : Str) = "always") = False := eq_false (by decide)
@[simp] theorem w_and_not : (("and" : Str) = "not") = False := eq_false (by decide)
@[simp] theorem w_and_or : (("and" : Str) = "or") = False := eq_false (by decide)
@[simp] theorem w_and_quotient : (("and" : Str) = "quotient") = False := eq_false (by decide)
@[simp] theorem w_and_unknown : (("and" : Str) = "unknown") = False := eq_false (by decide)
@[simp] theorem w_and_equal : (("and" : Str) = "equal") = False := eq_false (by decide)
@[simp] theorem w_and_below : (("and" : Str) = "below") = False := eq_false (by decide)
@[simp] theorem w_or_always : (("or" : Str) = "always") = False := eq_false (by decide)
@[simp] theorem w_or_not : (("or" : Str) = "not") = False := eq_false (by decide)
@[simp] theorem w_or_and : (("or" : Str) = "and") = False := eq_false (by decide)
@[simp] theorem w_or_quotient : (("or" : Str) = "quotient") = False := eq_false (by decide)
@[simp] theorem w_or_unknown : (("or" : Str) = "unknown") = False := eq_false (by decide)
@[simp] theorem w_or_equal : (("or" : Str) = "equal") = False := eq_false (by decide)
@[simp] theorem w_or_below : (("or" : Str) = "below") = False := eq_false (by decide)
@[simp] theorem w_quotient_always : (("quotient" : Str) = "always") = False := eq_false (by decide)
@[simp] theorem w_quotient_not : (("quotient" : Str) = "not") = False := eq_false (by decide)
@[simp] theorem w_quotient_and : (("quotient" : Str) = "and") = False := eq_false (by decide)
@[simp] theorem w_quotient_or : (("quotient" : Str) = "or") = False := eq_false (by decide)
@[simp] theorem w_quotient_unknown : (("quotient" : Str) = "unknown") = False := eq_false (by decide)
@[simp] theorem w_quotient_equal : (("quotient" : Str) = "equal") = False := eq_false (by decide)
@[simp] theorem w_quotient_below : (("quotient" : Str) = "below") = False := eq_false (by decide)
@[simp] theorem w_unknown_always : (("unknown" : Str) = "always") = False := eq_false (by decide)
@[simp] theorem w_unknown_not : (("unknown" : Str) = "not") = False := eq_false (by decide)
@[simp] theorem w_unknown_and : (("unknown" : Str) = "and") = False := eq_false (by decide)
@[simp] theorem w_unknown_or : (("unknown" : Str) = "or") = False := eq_false (by decide)
@[simp] theorem w_unknown_quotient : (("unknown" : Str) = "quotient") = False := eq_false (by decide)
@[simp] theorem w_unknown_equal : (("unknown" : Str) = "equal") = False := eq_false (by decide)
@[simp] theorem w_unknown_below : (("unknown" : Str) = "below") = False := eq_false (by decide)
@[simp] theorem w_equal_always : (("equal" : Str) = "always") = False := eq_false (by decide)
@[simp] theorem w_equal_not : (("equal" : Str) = "not") = False := eq_false (by decide)
@[simp] theorem w_equal_and : (("equal" : Str) = "and") = False := eq_false (by decide)
@[simp] theorem w_equal_or : (("equal" : Str) = "or") = False := eq_false (by decide)
@[simp] theorem w_equal_quotient : (("equal" : Str) = "quotient") = False := eq_false (by decide)
@[simp] theorem w_equal_unknown : (("equal" : Str) = "unknown") = False := eq_false (by decide)
@[simp] theorem w_equal_below : (("equal" : Str) = "below") = False := eq_false (by decide)
@[simp] theorem w_below_always : (("below" : Str) = "always") = False := eq_false (by decide)
@[simp] theorem w_below_not : (("below" : Str) = "not") = False := eq_false (by decide)
@[simp] theorem w_below_and : (("below" : Str) = "and") = False := eq_false (by decide)
@[simp] theorem w_below_or : (("below" : Str) = "or") = False := eq_false (by decide)
@[simp] theorem w_below_quotient : (("below" : Str) = "quotient") = False := eq_false (by decide)
@[simp] theorem w_below_unknown : (("below" : Str) = "unknown") = False := eq_false (by decide)
@[simp] theorem w_below_equal : (("below" : Str) = "equal") = False := eq_false (by decide)
/-! ### conditions -/
inductive Cd where
  | eql (i : Nat) (k : Int) | lss (i : Nat) (k : Int) | unk (i : Nat) | alw | quo (i j : Nat) (k : Int) | neg (c : Cd) | and (a b : Cd) | or (a b : Cd)
def Cd.pv : Cd → PV
  | .eql i k => .tup [.str "equal", .int i, .int k]
  | .lss i k => .tup [.str "below", .int i, .int k]
  | .unk i => .tup [.str "unknown", .int i]
  | .alw => .tup [.str "always"]
  | .quo i j k => .tup [.str "quotient", .int i, .int j, .int k]
  | .neg c => .tup [.str "not", c.pv]
  | .and a b => .tup [.str "and", a.pv, b.pv]
  | .or a b => .tup [.str "or", a.pv, b.pv]
def Cd.fine : Cd → Prop
  | .eql i k => i < 3 ∧ 0 ≤ k ∧ k < 3
  | .lss i k => i < 3 ∧ 0 ≤ k ∧ k < 3
  | .unk i => i < 3
  | .alw => True
  | .quo i j k => i < 3 ∧ j < 3 ∧ 0 ≤ k ∧ k < 3
  | .neg c => c.fine
  | .and a b => a.fine ∧ b.fine
  | .or a b => a.fine ∧ b.fine
def Cd.lev : Cd → Nat
  | .neg c => c.lev + 1
  | .and a b => max a.lev b.lev + 1
  | .or a b => max a.lev b.lev + 1
  | _ => 1
def Cd.noq : Cd → Prop
  | .quo .. => False
  | .neg c => c.noq
  | .and a b => a.noq ∧ b.noq
  | .or a b => a.noq ∧ b.noq
  | _ => True
theorem Cd.lev_pos : ∀ c : Cd, 1 ≤ c.lev
  | .eql .. | .lss .. | .unk .. | .alw | .quo .. => Nat.le_refl _
  | .neg _ | .and .. | .or .. => Nat.le_add_left _ _
theorem condition_spec' : ∀ (k l : Nat) (e : Nat) (o : Option AO) (T : AS), e ≤ 1 → 1 ≤ l → l ≤ k → Bx o → ∃ v S', F_condition k [.ref 0, .int l, .int e] (o :: T) = .ok v S' ∧ ∃ (c : Cd) (o' : Option AO), v = c.pv ∧ S' = o' :: T ∧ Bx o' ∧ c.fine ∧ c.lev ≤ l ∧ (e = 0 → c.noq)
  | 0, l, _, _, _, _, h1, h2, _ => by omega
  | k + 1, l, e, o, T, he, h1, h2, hb => by
    have hrec : 1 < l → ∀ (o : Option AO), Bx o → ∃ (c : Cd) (o' : Option AO), F_condition k [.ref 0, .int ((l : Int) - 1), .int e] (o :: T) = .ok c.pv (o' :: T) ∧ Bx o' ∧ c.fine ∧ c.lev + 1 ≤ l ∧ (e = 0 → c.noq) := fun hl o hb => by
      obtain ⟨v, S', q, c, o', rfl, rfl, b, f, lv, nq⟩ := condition_spec' k (l - 1) e o T he (by omega) (by omega) hb
      exact ⟨c, o', by rw [← q]; congr 3; congr 1; congr 1; omega, b, f, by omega, nq⟩
    unfold F_condition
    refine fn_of ?_
    unfold b_condition
    obtain ⟨r, o1, e1, b1, r0, r1⟩ := draw_spec (T := T) (n := 6) hb (by omega) (by omega)
    refine seq_e1 [.val (.ref 0), .val (.int l), .val (.int e), .val (.int r), .no] (o1 :: T) (by simp [e1]) ?_
    by_cases ha : (1 : Int) < l ∧ r < 2
    · obtain ⟨c1, o2, q1, b2, f1, l1, n1⟩ := hrec (by omega) o1 b1
      obtain ⟨c2, o3, q2, b3, f2, l2, n2⟩ := hrec (by omega) o2 b2
      by_cases hr : r = 0
      · subst hr
        refine ⟨(Cd.and c1 c2).pv, o3 :: T, ?_, .and c1 c2, o3, rfl, rfl, b3, ⟨f1, f2⟩, by unfold Cd.lev; omega, fun z => ⟨n1 z, n2 z⟩⟩
        simp [ha.1, q1, q2, Cd.pv]
      · have hr : r = 1 := by omega
        subst hr
        refine ⟨(Cd.or c1 c2).pv, o3 :: T, ?_, .or c1 c2, o3, rfl, rfl, b3, ⟨f1, f2⟩, by unfold Cd.lev; omega, fun z => ⟨n1 z, n2 z⟩⟩
        simp [ha.1, q1, q2, Cd.pv]
    · refine seq_e1 [.val (.ref 0), .val (.int l), .val (.int e), .val (.int r), .no] (o1 :: T) (by
        by_cases h3 : (1 : Int) < l
        · have h4 : ¬ r < 2 := fun z => ha ⟨h3, z⟩
          simp [h3, h4]
        · simp [h3]) ?_
      by_cases hn : (1 : Int) < l ∧ r = 2
      · obtain ⟨c1, o2, q1, b2, f1, l1, n1⟩ := hrec (by omega) o1 b1
        obtain ⟨h3, h4⟩ := hn
        subst h4
        refine ⟨(Cd.neg c1).pv, o2 :: T, ?_, .neg c1, o2, rfl, rfl, b2, f1, by unfold Cd.lev; omega, n1⟩
        simp [h3, q1, Cd.pv]
      · refine seq_e1 [.val (.ref 0), .val (.int l), .val (.int e), .val (.int r), .no] (o1 :: T) (by
          by_cases h3 : (1 : Int) < l
          · have h4 : ¬ r = 2 := fun z => hn ⟨h3, z⟩
            simp [h3, h4]
          · simp [h3]) ?_
        obtain ⟨i, o2, e2, b2, i0⟩ := draw_nat (T := T) (n := 3) b1 (by omega) (by omega)
        have e2 : F_draw [.ref 0, .int 3] (o1 :: T) = .ok (.int i) (o2 :: T) := e2
        refine seq_e1 [.val (.ref 0), .val (.int l), .val (.int e), .val (.int r), .val (.int i)] (o2 :: T) (by simp [e2]) ?_
        obtain ⟨m, o3, e3, b3, m0, m1⟩ := draw_spec (T := T) (n := 8 + 3 * (e : Int)) b2 (by omega) (by omega)
        refine seq_e1 [.val (.ref 0), .val (.int l), .val (.int e), .val (.int m), .val (.int i)] (o3 :: T) (by simp [e3]) ?_
        obtain ⟨u, o4, e4, b4, u0, u1⟩ := draw_spec (T := T) (n := 3) b3 (by omega) (by omega)
        by_cases h4 : m < 4
        · refine ⟨(Cd.eql i u).pv, o4 :: T, ?_, .eql i u, o4, rfl, rfl, b4, ⟨i0, u0, u1⟩, h1, fun _ => trivial⟩
          simp [h4, e4, Cd.pv]
        · refine seq_e1 [.val (.ref 0), .val (.int l), .val (.int e), .val (.int m), .val (.int i)] (o3 :: T) (by simp [h4]) ?_
          by_cases h5 : m = 4
          · refine ⟨(Cd.lss i u).pv, o4 :: T, ?_, .lss i u, o4, rfl, rfl, b4, ⟨i0, u0, u1⟩, h1, fun _ => trivial⟩
            simp [h5, e4, Cd.pv]
          · refine seq_e1 [.val (.ref 0), .val (.int l), .val (.int e), .val (.int m), .val (.int i)] (o3 :: T) (by simp [h5]) ?_
            by_cases h6 : m < 7
            · refine ⟨(Cd.unk i).pv, o3 :: T, ?_, .unk i, o3, rfl, rfl, b3, i0, h1, fun _ => trivial⟩
              simp [h6, Cd.pv]
            · refine seq_e1 [.val (.ref 0), .val (.int l), .val (.int e), .val (.int m), .val (.int i)] (o3 :: T) (by simp [h6]) ?_
              by_cases h7 : m = 7
              · refine ⟨Cd.alw.pv, o3 :: T, ?_, .alw, o3, rfl, rfl, b3, trivial, h1, fun _ => trivial⟩
                simp [h7, Cd.pv]
              · refine seq_e1 [.val (.ref 0), .val (.int l), .val (.int e), .val (.int m), .val (.int i)] (o3 :: T) (by simp [h7]) ?_
                obtain ⟨j, o5, e5, b5, j0⟩ := draw_nat (T := T) (n := 3) b3 (by omega) (by omega)
                have e5 : F_draw [.ref 0, .int 3] (o3 :: T) = .ok (.int j) (o5 :: T) := e5
                obtain ⟨u2, o6, e6, b6, u3, u4⟩ := draw_spec (T := T) (n := 3) b5 (by omega) (by omega)
                refine ⟨(Cd.quo i j u2).pv, o6 :: T, ?_, .quo i j u2, o6, rfl, rfl, b6, ⟨i0, j0, u3, u4⟩, h1, fun z => by omega⟩
                simp [e5, e6, Cd.pv]
theorem condition_spec {o : Option AO} {T : AS} (k l : Nat) (e : Nat) (he : e ≤ 1) (h1 : 1 ≤ l) (h2 : l ≤ k) (hb : Bx o) : ∃ (c : Cd) (o' : Option AO), F_condition k [.ref 0, .int l, .int e] (o :: T) = .ok c.pv (o' :: T) ∧ Bx o' ∧ c.fine ∧ c.lev ≤ l ∧ (e = 0 → c.noq) := by
  obtain ⟨v, S', q, c, o', rfl, rfl, h⟩ := condition_spec' k l e o T he h1 h2 hb
  exact ⟨c, o', q, h⟩
end LB

end
section
set_option Elab.async false
set_option linter.all false
set_option maxRecDepth 100000
set_option maxHeartbeats 4000000
namespace LB
open PySem PySem.Spec PyProof.Rows L2 Fu
/-- a row's cell -/
def cel (xs : List PV) (i : Nat) : PV := xs.getD i .non
/-- what a condition is of a row: 0, 1, 2; none: a divisor 0 -/
def ev (xs : List PV) : Cd → Option Nat
  | .eql i k => match cel xs i with
    | .int v => some (if v = k then 2 else 0)
    | _ => some 1
  | .lss i k => match cel xs i with
    | .int v => some (if v < k then 2 else 0)
    | _ => some 1
  | .unk i => match cel xs i with
    | .non => some 2
    | _ => some 0
  | .alw => some 2
  | .quo i j k => match cel xs j with
    | .int d => if d = 0 then none else match cel xs i with
      | .int v => some (if v.fdiv d = k then 2 else 0)
      | _ => some 1
    | _ => some 1
  | .neg c => (ev xs c).map (2 - ·)
  | .and a b => match ev xs a with
    | none => none
    | some l => if l = 0 then some 0 else match ev xs b with
      | none => none
      | some r => some (if l < r then l else r)
  | .or a b => match ev xs a with
    | none => none
    | some l => if l = 2 then some 2 else match ev xs b with
      | none => none
      | some r => some (if l > r then l else r)
theorem ev_le (xs : List PV) : ∀ (c : Cd) (r : Nat), ev xs c = some r → r ≤ 2
  | .eql i k, r, h => by
    unfold ev at h
    split at h
    · split at h <;> cases h <;> omega
    · cases h; omega
  | .lss i k, r, h => by
    unfold ev at h
    split at h
    · split at h <;> cases h <;> omega
    · cases h; omega
  | .unk i, r, h => by
    unfold ev at h
    split at h <;> cases h <;> omega
  | .alw, r, h => by cases h; omega
  | .quo i j k, r, h => by
    unfold ev at h
    split at h
    · split at h
      · cases h
      · split at h
        · split at h <;> cases h <;> omega
        · cases h; omega
    · cases h; omega
  | .neg c, r, h => by
    unfold ev at h
    cases q : ev xs c with
    | none => rw [q] at h; cases h
    | some l => rw [q] at h; have h2 : 2 - l = r := Option.some.inj h; omega
  | .and a b, r, h => by
    unfold ev at h
    cases q : ev xs a with
    | none => rw [q] at h; cases h
    | some l =>
      have := ev_le xs a l q
      rw [q] at h
      dsimp only at h
      split at h
      · cases h; omega
      · cases q2 : ev xs b with
        | none => rw [q2] at h; cases h
        | some r2 =>
          have := ev_le xs b r2 q2
          rw [q2] at h
          dsimp only at h
          split at h <;> cases h <;> omega
  | .or a b, r, h => by
    unfold ev at h
    cases q : ev xs a with
    | none => rw [q] at h; cases h
    | some l =>
      have := ev_le xs a l q
      rw [q] at h
      dsimp only at h
      split at h
      · cases h; omega
      · cases q2 : ev xs b with
        | none => rw [q2] at h; cases h
        | some r2 =>
          have := ev_le xs b r2 q2
          rw [q2] at h
          dsimp only at h
          split at h <;> cases h <;> omega
def code (o : Option Nat) : Int := match o with
  | some r => r
  | none => 3
/-- a row -/
structure Row (xs : List PV) : Prop where
  len : xs.length = 3
  cell : ∀ x ∈ xs, Cell x
theorem Rw.row {p : PV} (h : Rw p) : ∃ xs, p = .tup xs ∧ Row xs := by
  obtain ⟨a, b, c, rfl, h1, h2, h3⟩ := h
  exact ⟨_, rfl, rfl, by simp; exact ⟨h1, h2, h3⟩⟩
theorem Row.at {xs : List PV} (h : Row xs) {i : Nat} (hi : i < 3) : xs[i]? = some (cel xs i) ∧ Cell (cel xs i) := by
  have hl : i < xs.length := by rw [h.len]; exact hi
  have e : cel xs i = xs[i] := by unfold cel; rw [List.getD_eq_getElem?_getD, List.getElem?_eq_getElem hl]; rfl
  rw [e]
  exact ⟨List.getElem?_eq_getElem hl, h.cell _ (List.getElem_mem _)⟩
@[simp] theorem g_eqNI {g : Bool → Bool} {b : Int} {S : AS} : eqG g .non (.int b) S = .ok (.bl (g false)) S := rfl
@[simp] theorem g_eqIN {g : Bool → Bool} {b : Int} {S : AS} : eqG g (.int b) .non S = .ok (.bl (g false)) S := rfl
@[simp] theorem g_eqNN {g : Bool → Bool} {S : AS} : eqG g .non .non S = .ok (.bl (g true)) S := rfl
theorem Cell.or {z : PV} (h : Cell z) : z = .non ∨ ∃ v : Int, z = .int v ∧ 0 ≤ v ∧ v ≤ 2 := by
  rcases h with rfl | rfl | rfl | rfl
  · exact .inl rfl
  · exact .inr ⟨0, rfl, by omega, by omega⟩
  · exact .inr ⟨1, rfl, by omega, by omega⟩
  · exact .inr ⟨2, rfl, by omega, by omega⟩
theorem Ltruth_spec {xs : List PV} (hx : Row xs) (S : AS) : ∀ (k : Nat) (c : Cd), c.lev ≤ k → c.fine → F_Ltruth k [c.pv, .tup xs] S = .ok (.int (code (ev xs c))) S
  | 0, c, h, _ => by have := c.lev_pos; omega
  | k + 1, c, h, hf => by
    unfold F_Ltruth
    refine fn_rt ?_
    cases c with
    | eql i k2 =>
      obtain ⟨e1, e2⟩ := hx.at hf.1
      unfold b_Ltruth ev
      generalize cel xs i = z at e1 e2
      rcases e2.or with rfl | ⟨v, rfl, _⟩
      · simp [Cd.pv, at_nat, e1, Fu.isNon, code]
      · by_cases hk : v = k2 <;> simp [Cd.pv, at_nat, e1, Fu.isNon, code, hk]
    | lss i k2 =>
      obtain ⟨e1, e2⟩ := hx.at hf.1
      unfold b_Ltruth ev
      generalize cel xs i = z at e1 e2
      rcases e2.or with rfl | ⟨v, rfl, _⟩
      · simp [Cd.pv, at_nat, e1, Fu.isNon, code]
      · by_cases hk : v < k2 <;> simp [Cd.pv, at_nat, e1, Fu.isNon, code, hk]
    | unk i =>
      obtain ⟨e1, e2⟩ := hx.at hf
      unfold b_Ltruth ev
      generalize cel xs i = z at e1 e2
      rcases e2.or with rfl | ⟨v, rfl, _⟩ <;> simp [Cd.pv, at_nat, e1, Fu.isNon, code]
    | alw => simp [b_Ltruth, ev, Cd.pv, code]
    | quo i j k2 =>
      obtain ⟨e1, e2⟩ := hx.at hf.1
      obtain ⟨e3, e4⟩ := hx.at hf.2.1
      unfold b_Ltruth ev
      generalize cel xs i = z at e1 e2
      generalize cel xs j = y at e3 e4
      rcases e4.or with rfl | ⟨d, rfl, d0, d1⟩
      · simp [Cd.pv, at_nat, e1, e3, Fu.isNon, code]
      · by_cases hd : d = 0
        · simp [Cd.pv, at_nat, e1, e3, Fu.isNon, code, hd]
        · rcases e2.or with rfl | ⟨v, rfl, v0, v1⟩
          · simp [Cd.pv, at_nat, e1, e3, Fu.isNon, code, hd]
          · have hc : cDiv v d = true := div_c ⟨hd, by omega⟩
            by_cases hk : v.fdiv d = k2 <;> simp [Cd.pv, at_nat, e1, e3, Fu.isNon, code, hd, hc, hk]
    | neg c =>
      have ih := Ltruth_spec hx S k c (by unfold Cd.lev at h; omega) hf
      unfold b_Ltruth ev
      cases q : ev xs c with
      | none => rw [q] at ih; simp [Cd.pv, ih, code]
      | some r =>
        have := ev_le xs c r q
        rw [q] at ih
        have h3 : ¬ ((r : Int) = 3) := by omega
        simp [Cd.pv, ih, code, h3]
        omega
    | and a b =>
      have i1 := Ltruth_spec hx S k a (by unfold Cd.lev at h; omega) hf.1
      have i2 := Ltruth_spec hx S k b (by unfold Cd.lev at h; omega) hf.2
      unfold b_Ltruth ev
      cases q : ev xs a with
      | none => rw [q] at i1; simp [Cd.pv, i1, code]
      | some l =>
        have hl := ev_le xs a l q
        rw [q] at i1
        by_cases l0 : l = 0
        · subst l0; simp [Cd.pv, i1, code]
        · have l3 : ¬ ((l : Int) = 3) := by omega
          cases q2 : ev xs b with
          | none => rw [q2] at i2; simp [Cd.pv, i1, i2, code, l0, l3]
          | some r =>
            have hr := ev_le xs b r q2
            rw [q2] at i2
            have hl' : l = 1 ∨ l = 2 := by omega
            have hr' : r = 0 ∨ r = 1 ∨ r = 2 := by omega
            rcases hl' with rfl | rfl <;> rcases hr' with rfl | rfl | rfl <;> simp [Cd.pv, i1, i2, code]
    | or a b =>
      have i1 := Ltruth_spec hx S k a (by unfold Cd.lev at h; omega) hf.1
      have i2 := Ltruth_spec hx S k b (by unfold Cd.lev at h; omega) hf.2
      unfold b_Ltruth ev
      cases q : ev xs a with
      | none => rw [q] at i1; simp [Cd.pv, i1, code]
      | some l =>
        have hl := ev_le xs a l q
        rw [q] at i1
        by_cases l0 : l = 2
        · subst l0; simp [Cd.pv, i1, code]
        · have l3 : ¬ ((l : Int) = 3) := by omega
          have l4 : ¬ ((l : Int) = 2) := by omega
          cases q2 : ev xs b with
          | none => rw [q2] at i2; simp [Cd.pv, i1, i2, code, l0, l3, l4]
          | some r =>
            have hr := ev_le xs b r q2
            rw [q2] at i2
            have hl' : l = 0 ∨ l = 1 := by omega
            have hr' : r = 0 ∨ r = 1 ∨ r = 2 := by omega
            rcases hl' with rfl | rfl <;> rcases hr' with rfl | rfl | rfl <;> simp [Cd.pv, i1, i2, code]
end LB

end
section
set_option Elab.async false
set_option linter.all false
set_option maxRecDepth 100000
set_option maxHeartbeats 4000000
namespace LB
open PySem PySem.Spec PyProof.Rows L2 Fu
/-- a truth value -/
def tr (r : Int) : Option AO := some (.ins "Truth" [("rank", .int r)])
theorem cat_at (S : AS) (x : Option AO) : (S ++ [x])[S.length]? = some x := by simp
theorem cat_put (S : AS) (x y : Option AO) : (S ++ [x]).set S.length y = S ++ [y] := by simp
theorem cat_get {S E : AS} {n : Nat} {x : Option AO} (h : S[n]? = some x) : (S ++ E)[n]? = some x := by
  rw [List.getElem?_append_left (List.getElem?_eq_some_iff.mp h).1]
  exact h
theorem init_T (S : AS) (r : Int) : F_Truth_init [.ref S.length, .int r] (S ++ [some (.ins "Truth" [])]) = .ok .non (S ++ [tr r]) := by
  unfold F_Truth_init fnOf b_Truth_init fldS
  simp [putP, tr]
theorem mkT {fa : FA} {η : Sls} {S S1 : AS} {r : Int} (h : fa η S = .ok [.int r] S1) : mkF "Truth" 2 F_Truth_init fa η S = .ok (.ref S1.length) (S1 ++ [tr r]) := by
  unfold mkF
  rw [h]
  simp [init_T]
theorem rank_at {S : AS} {n : Nat} {r : Int} (h : S[n]? = some (tr r)) : fldG "Truth" "rank" (.ref n) S = .ok (.int r) S := by
  unfold fldG
  simp [h, tr]
theorem isT_at {S : AS} {n : Nat} {r : Int} (h : S[n]? = some (tr r)) : isIns "Truth" (.ref n) S = true := by
  unfold isIns
  simp [h, tr]
theorem inv_T {S : AS} {n : Nat} {r : Int} (h : S[n]? = some (tr r)) : F_Truth_invert [.ref n] S = .ok (.ref S.length) (S ++ [tr (2 - r)]) := by
  unfold F_Truth_invert
  refine fn_rt ?_
  unfold b_Truth_invert
  rw [e_ret, mkT (S1 := S) (r := 2 - r) (by simp [rank_at h])]
  rfl
theorem and_T {S : AS} {n m : Nat} {r t : Int} (h : S[n]? = some (tr r)) (h2 : S[m]? = some (tr t)) : F_Truth_and [.ref n, .ref m] S = .ok (.ref (if r < t then n else m)) S := by
  unfold F_Truth_and
  refine fn_rt ?_
  unfold b_Truth_and
  by_cases hk : r < t <;> simp [rank_at h, rank_at h2, hk]
theorem or_T {S : AS} {n m : Nat} {r t : Int} (h : S[n]? = some (tr r)) (h2 : S[m]? = some (tr t)) : F_Truth_or [.ref n, .ref m] S = .ok (.ref (if r > t then n else m)) S := by
  unfold F_Truth_or
  refine fn_rt ?_
  unfold b_Truth_or
  by_cases hk : t < r <;> simp [rank_at h, rank_at h2, hk]
theorem bool_T {S : AS} {n : Nat} {r : Int} (h : S[n]? = some (tr r)) : F_Truth_bool [.ref n] S = .ok (.bl (decide (r = 2))) S := by
  unfold F_Truth_bool
  refine fn_rt ?_
  unfold b_Truth_bool
  simp [rank_at h, boolC]
/-- the value of a truth value's rank -/
def tv : Option Nat → PV
  | some 0 => .bl false
  | some 1 => .non
  | _ => .bl true
theorem of_T (S : AS) (r : Nat) (hr : r ≤ 2) : F_Truth_of [tv (some r)] S = .ok (.ref S.length) (S ++ [tr r]) := by
  have h : r = 0 ∨ r = 1 ∨ r = 2 := by omega
  unfold F_Truth_of
  refine fn_rt ?_
  unfold b_Truth_of
  rcases h with rfl | rfl | rfl
  · refine (seq_nx [.val (.bl false)] S (by simp [tv, Fu.isNon])).trans ?_
    rw [e_ret, mkT (S1 := S) (r := 0) (by simp)]
    rfl
  · rw [e_seq, e_ifS]
    simp only [e_tst, e_op, e_bvar, List.map_cons, List.map_nil, tv]
    simp [Fu.isNon]
    rw [mkT (S1 := S) (r := 1) (by simp)]
    rfl
  · refine (seq_nx [.val (.bl true)] S (by simp [tv, Fu.isNon])).trans ?_
    rw [e_ret, mkT (S1 := S) (r := 2) (by simp)]
    rfl
abbrev zeroE : List (Str × PV) := [("told", .tup [.str "refused", .str "zero"])]
/-- atoms -/
def Cd.atom : Cd → Prop
  | .neg _ => False
  | .and .. => False
  | .or .. => False
  | _ => True
theorem simple_spec {xs : List PV} (hx : Row xs) (S : AS) : ∀ c : Cd, c.atom → c.fine → F_simple_value [c.pv, .tup xs] S = match ev xs c with
    | some r => .ok (tv (some r)) S
    | none => .exc "ZeroDivisor" zeroE S
  | .eql i k2, _, hf => by
    obtain ⟨e1, e2⟩ := hx.at hf.1
    unfold F_simple_value fnOf b_simple_value ev
    generalize cel xs i = z at e1 e2
    rcases e2.or with rfl | ⟨v, rfl, _⟩
    · simp [Cd.pv, at_nat, e1, Fu.isNon, tv]
    · by_cases hk : v = k2 <;> simp [Cd.pv, at_nat, e1, Fu.isNon, tv, hk]
  | .lss i k2, _, hf => by
    obtain ⟨e1, e2⟩ := hx.at hf.1
    unfold F_simple_value fnOf b_simple_value ev
    generalize cel xs i = z at e1 e2
    rcases e2.or with rfl | ⟨v, rfl, _⟩
    · simp [Cd.pv, at_nat, e1, Fu.isNon, tv]
    · by_cases hk : v < k2 <;> simp [Cd.pv, at_nat, e1, Fu.isNon, tv, hk]
  | .unk i, _, hf => by
    obtain ⟨e1, e2⟩ := hx.at hf
    unfold F_simple_value fnOf b_simple_value ev
    generalize cel xs i = z at e1 e2
    rcases e2.or with rfl | ⟨v, rfl, _⟩ <;> simp [Cd.pv, at_nat, e1, Fu.isNon, tv]
  | .alw, _, _ => by
    unfold F_simple_value fnOf b_simple_value ev
    simp [Cd.pv, tv]
  | .quo i j k2, _, hf => by
    obtain ⟨e1, e2⟩ := hx.at hf.1
    obtain ⟨e3, e4⟩ := hx.at hf.2.1
    unfold F_simple_value fnOf b_simple_value ev
    generalize cel xs i = z at e1 e2
    generalize cel xs j = y at e3 e4
    rcases e4.or with rfl | ⟨d, rfl, d0, d1⟩
    · rcases e2.or with rfl | ⟨v, rfl, v0, v1⟩ <;> simp [Cd.pv, at_nat, e1, e3, Fu.isNon, tv, F_quotient_value, fnOf, b_quotient_value]
    · by_cases hd : d = 0
      · rcases e2.or with rfl | ⟨v, rfl, v0, v1⟩ <;> simp [Cd.pv, at_nat, e1, e3, Fu.isNon, tv, hd, F_quotient_value, fnOf, b_quotient_value, raiseS, initF, fx_ZeroDivisor, initL]
      · rcases e2.or with rfl | ⟨v, rfl, v0, v1⟩
        · simp [Cd.pv, at_nat, e1, e3, Fu.isNon, tv, hd, F_quotient_value, fnOf, b_quotient_value]
        · have hc : cDiv v d = true := div_c ⟨hd, by omega⟩
          by_cases hk : v.fdiv d = k2 <;> simp [Cd.pv, at_nat, e1, e3, Fu.isNon, tv, hd, hc, hk, F_quotient_value, fnOf, b_quotient_value]
  | .neg _, h, _ => h.elim
  | .and .., h, _ => h.elim
  | .or .., h, _ => h.elim
end LB

end
section
set_option Elab.async false
set_option linter.all false
set_option maxRecDepth 100000
set_option maxHeartbeats 4000000
namespace LB
open PySem PySem.Spec PyProof.Rows L2 Fu
/-- what the program's truth gives -/
def TrOk (f : Fn) (xs : List PV) (c : Cd) (S : AS) : Prop := (∀ r, ev xs c = some r → ∃ E n, f [c.pv, .tup xs] S = .ok (.ref n) (S ++ E) ∧ (S ++ E)[n]? = some (tr r)) ∧
  (ev xs c = none → ∃ E, f [c.pv, .tup xs] S = .exc "ZeroDivisor" zeroE (S ++ E))
@[simp] theorem isIns_str {c z : Str} {S : AS} : isIns c (.str z) S = false := rfl
@[simp] theorem isIns_int {c : Str} {i : Int} {S : AS} : isIns c (.int i) S = false := rfl
@[simp] theorem isIns_non {c : Str} {S : AS} : isIns c .non S = false := rfl
@[simp] theorem orOwn_str {c z : Str} {f : Fn} {g : PV → PV → AS → R PV} {q : PV} {S : AS} : orOwn c f g (.str z) q S = g (.str z) q S := rfl
@[simp] theorem orOwn_int {c : Str} {i : Int} {f : Fn} {g : PV → PV → AS → R PV} {q : PV} {S : AS} : orOwn c f g (.int i) q S = g (.int i) q S := rfl
theorem Cd.word (c : Cd) : ∃ w ps, c.pv = .tup (.str w :: ps) := by cases c <;> exact ⟨_, _, rfl⟩
theorem atom_truth {xs : List PV} (hx : Row xs) (f : Fn) (S : AS) (c : Cd) (ha : c.atom) (hf : c.fine) : TrOk (fnOf 4 (b_truth f)) xs c S := by
  have sp := simple_spec hx S c ha hf
  have go : fnOf 4 (b_truth f) [c.pv, .tup xs] S = (match F_simple_value [c.pv, .tup xs] S with
      | .ok v S => F_Truth_of [v] S
      | .exc c fs S => .exc c fs S
      | .stuck => .stuck) := by
    unfold fnOf b_truth
    cases hr : F_simple_value [c.pv, .tup xs] S with
    | ok v S' =>
      cases hq : F_Truth_of [v] S' with
      | ok a b => cases c <;> first | exact ha.elim | (simp only [Cd.pv] at hr; simp [Cd.pv, hr, statF, hq])
      | exc a b d => cases c <;> first | exact ha.elim | (simp only [Cd.pv] at hr; simp [Cd.pv, hr, statF, hq])
      | stuck => cases c <;> first | exact ha.elim | (simp only [Cd.pv] at hr; simp [Cd.pv, hr, statF, hq])
    | exc a b d => cases c <;> first | exact ha.elim | (simp only [Cd.pv] at hr; simp [Cd.pv, hr, statF])
    | stuck => cases c <;> first | exact ha.elim | (simp only [Cd.pv] at hr; simp [Cd.pv, hr, statF])
  rw [sp] at go
  refine ⟨fun r e => ?_, fun e => ?_⟩
  · rw [e] at go
    exact ⟨[tr r], S.length, go.trans (of_T S r (ev_le xs c r e)), cat_at _ _⟩
  · rw [e] at go
    exact ⟨[], by rw [List.append_nil]; exact go⟩
theorem truth_spec {xs : List PV} (hx : Row xs) : ∀ (k : Nat) (c : Cd) (S : AS), c.lev ≤ k → c.fine → TrOk (F_truth k) xs c S
  | 0, c, _, h, _ => by have := c.lev_pos; omega
  | k + 1, c, S, h, hf => by
    show TrOk (fnOf 4 (b_truth (F_truth k))) xs c S
    cases c with
    | eql i k2 => exact atom_truth hx _ S _ trivial hf
    | lss i k2 => exact atom_truth hx _ S _ trivial hf
    | unk i => exact atom_truth hx _ S _ trivial hf
    | alw => exact atom_truth hx _ S _ trivial hf
    | quo i j k2 => exact atom_truth hx _ S _ trivial hf
    | neg c =>
      obtain ⟨h1, h2⟩ := truth_spec hx k c S (by unfold Cd.lev at h; omega) hf
      refine ⟨fun r e => ?_, fun e => ?_⟩
      · unfold ev at e
        cases q : ev xs c with
        | none => rw [q] at e; cases e
        | some l =>
          rw [q] at e
          have er : 2 - l = r := Option.some.inj e
          have hl := ev_le xs c l q
          obtain ⟨E, n, e1, e2⟩ := h1 l q
          refine ⟨E ++ [tr r], (S ++ E).length, ?_, by rw [← List.append_assoc]; exact cat_at _ _⟩
          have e3 := inv_T e2
          rw [show (2 : Int) - l = r by omega] at e3
          unfold fnOf b_truth
          simp [Cd.pv, e1, ownG1, isT_at e2, e3]
      · unfold ev at e
        cases q : ev xs c with
        | some l => rw [q] at e; cases e
        | none =>
          obtain ⟨E, e1⟩ := h2 q
          refine ⟨E, ?_⟩
          unfold fnOf b_truth
          simp [Cd.pv, e1]
    | and a b =>
      obtain ⟨h1, h2⟩ := truth_spec hx k a S (by unfold Cd.lev at h; omega) hf.1
      have hb := fun S => truth_spec hx k b S (by unfold Cd.lev at h; omega) hf.2
      unfold TrOk ev
      cases q : ev xs a with
      | none =>
        refine ⟨fun r e => (by cases e), fun _ => ?_⟩
        obtain ⟨E, e1⟩ := h2 q
        refine ⟨E, ?_⟩
        unfold fnOf b_truth
        simp [Cd.pv, e1]
      | some l =>
        obtain ⟨E, n, e1, e2⟩ := h1 l q
        by_cases l0 : l = 0
        · subst l0
          refine ⟨fun r e => ?_, fun e => by cases e⟩
          cases e
          refine ⟨E, n, ?_, e2⟩
          unfold fnOf b_truth
          simp [Cd.pv, e1, rank_at e2]
        · obtain ⟨h3, h4⟩ := hb (S ++ E)
          dsimp only
          rw [if_neg l0]
          cases q2 : ev xs b with
          | none =>
            refine ⟨fun r e => (by cases e), fun _ => ?_⟩
            obtain ⟨E2, e3⟩ := h4 q2
            refine ⟨E ++ E2, ?_⟩
            unfold fnOf b_truth
            simp [Cd.pv, e1, rank_at e2, l0, e3]
          | some r =>
            refine ⟨fun r2 e => ?_, fun e => by cases e⟩
            cases e
            obtain ⟨E2, m, e3, e4⟩ := h3 r q2
            have e5 : (S ++ E ++ E2)[n]? = some (tr l) := cat_get e2
            have e6 := and_T e5 e4
            refine ⟨E ++ E2, if (l : Int) < r then n else m, ?_, ?_⟩
            · unfold fnOf b_truth
              simp [Cd.pv, e1, rank_at e2, l0, e3, ownG, isT_at e5, isT_at e4]
              simp [e6, ← List.append_assoc, isT_at e5, isT_at e4]
            · rw [← List.append_assoc]
              by_cases hlr : l < r
              · rw [if_pos hlr, if_pos (by omega)]; exact e5
              · rw [if_neg hlr, if_neg (by omega)]; exact e4
    | or a b =>
      obtain ⟨h1, h2⟩ := truth_spec hx k a S (by unfold Cd.lev at h; omega) hf.1
      have hb := fun S => truth_spec hx k b S (by unfold Cd.lev at h; omega) hf.2
      unfold TrOk ev
      cases q : ev xs a with
      | none =>
        refine ⟨fun r e => (by cases e), fun _ => ?_⟩
        obtain ⟨E, e1⟩ := h2 q
        refine ⟨E, ?_⟩
        unfold fnOf b_truth
        simp [Cd.pv, e1]
      | some l =>
        obtain ⟨E, n, e1, e2⟩ := h1 l q
        by_cases l0 : l = 2
        · subst l0
          refine ⟨fun r e => ?_, fun e => by cases e⟩
          cases e
          refine ⟨E, n, ?_, e2⟩
          unfold fnOf b_truth
          simp [Cd.pv, e1, rank_at e2]
        · have l2 : ¬ ((l : Int) = 2) := by omega
          obtain ⟨h3, h4⟩ := hb (S ++ E)
          dsimp only
          rw [if_neg l0]
          cases q2 : ev xs b with
          | none =>
            refine ⟨fun r e => (by cases e), fun _ => ?_⟩
            obtain ⟨E2, e3⟩ := h4 q2
            refine ⟨E ++ E2, ?_⟩
            unfold fnOf b_truth
            simp [Cd.pv, e1, rank_at e2, l2, e3]
          | some r =>
            refine ⟨fun r2 e => ?_, fun e => by cases e⟩
            cases e
            obtain ⟨E2, m, e3, e4⟩ := h3 r q2
            have e5 : (S ++ E ++ E2)[n]? = some (tr l) := cat_get e2
            have e6 := or_T e5 e4
            refine ⟨E ++ E2, if (l : Int) > r then n else m, ?_, ?_⟩
            · unfold fnOf b_truth
              simp [Cd.pv, e1, rank_at e2, l2, e3, ownG, isT_at e5, isT_at e4]
              simp [e6, ← List.append_assoc, isT_at e5, isT_at e4]
            · rw [← List.append_assoc]
              by_cases hlr : l > r
              · rw [if_pos hlr, if_pos (by omega)]; exact e5
              · rw [if_neg hlr, if_neg (by omega)]; exact e4
end LB

end
section
set_option Elab.async false
set_option linter.all false
set_option maxRecDepth 100000
set_option maxHeartbeats 4000000
namespace LB
open PySem PySem.Spec PyProof.Rows L2 Fu
theorem noq_ev (xs : List PV) : ∀ c : Cd, c.noq → ∃ r, ev xs c = some r
  | .eql i k, _ => by
    unfold ev
    split <;> exact ⟨_, rfl⟩
  | .lss i k, _ => by
    unfold ev
    split <;> exact ⟨_, rfl⟩
  | .unk i, _ => by
    unfold ev
    split <;> exact ⟨_, rfl⟩
  | .alw, _ => ⟨_, rfl⟩
  | .quo .., h => h.elim
  | .neg c, h => by
    obtain ⟨r, e⟩ := noq_ev xs c h
    unfold ev
    rw [e]
    exact ⟨_, rfl⟩
  | .and a b, h => by
    obtain ⟨r, e⟩ := noq_ev xs a h.1
    obtain ⟨r2, e2⟩ := noq_ev xs b h.2
    unfold ev
    rw [e, e2]
    dsimp only
    split <;> exact ⟨_, rfl⟩
  | .or a b, h => by
    obtain ⟨r, e⟩ := noq_ev xs a h.1
    obtain ⟨r2, e2⟩ := noq_ev xs b h.2
    unfold ev
    rw [e, e2]
    dsimp only
    split <;> exact ⟨_, rfl⟩
/-- a rule -/
structure Rl where
  nm : Str
  tb : Str
  col : Nat
  cd : Cd
def Rl.pv (r : Rl) : PV := .tup [.str r.nm, .str r.tb, .int r.col, r.cd.pv]
structure Rl.Ok (r : Rl) (k : Nat) : Prop where
  col : r.col < 3
  fine : r.cd.fine
  lev : r.cd.lev ≤ k
  noq : r.cd.noq
  nm : Nm r.nm
  tb : Nm r.tb
/-- the group of a row -/
def gr (xs : List PV) (r : Rl) : PV := if ev xs r.cd = some 2 then cel xs r.col else .non
theorem gr_cell {xs : List PV} (hx : Row xs) {r : Rl} (h : r.col < 3) : Cell (gr xs r) := by
  unfold gr
  split
  · exact (hx.at h).2
  · exact .inl rfl
theorem code_2 {o : Option Nat} (h : ∀ r, o = some r → r ≤ 2) : (code o = 2) = (o = some 2) := by
  cases o with
  | none => simp [code]
  | some r =>
    simp only [code, Option.some.injEq, eq_iff_iff]
    omega
theorem Lgroup_spec {xs : List PV} (hx : Row xs) {r : Rl} (h : r.Ok 10) (S : AS) : F_Lgroup [r.pv, .tup xs] S = .ok (gr xs r) S := by
  have e1 := Ltruth_spec hx S 10 r.cd h.lev h.fine
  obtain ⟨e2, _⟩ := hx.at h.col
  have e3 := code_2 (ev_le xs r.cd)
  unfold F_Lgroup fnOf b_Lgroup gr
  by_cases hc : ev xs r.cd = some 2
  · rw [if_pos hc]
    have e4 : code (ev xs r.cd) = 2 := by rw [e3]; exact hc
    simp [Rl.pv, e1, e4, at_nat, e2]
  · rw [if_neg hc]
    have e4 : ¬ code (ev xs r.cd) = 2 := by rw [e3]; exact hc
    simp [Rl.pv, e1, e4]
theorem lt_cell {n : Nat} {p : PV} (h : Cell p) : Fu.lt n p = true := by
  rcases h with rfl | rfl | rfl | rfl <;> rfl
theorem trim_ext {f : Fn} {ps : List PV} {S E : AS} {v : PV} (e : f ps S = .ok v (S ++ E)) (hv : Fu.lt S.length v = true) : trim f ps S = .ok v S := by
  have := trim_ok e ⟨hv, by simp, fun m hm => .inl (List.getElem?_append_left hm)⟩
  rw [this]
  simp
theorem group_spec {xs : List PV} (hx : Row xs) {r : Rl} (h : r.Ok 10) (S : AS) : F_group [r.pv, .tup xs] S = .ok (gr xs r) S := by
  obtain ⟨t, ht⟩ := noq_ev xs r.cd h.noq
  obtain ⟨E, n, e1, e2⟩ := (truth_spec hx 10 r.cd S h.lev h.fine).1 t ht
  obtain ⟨e3, _⟩ := hx.at h.col
  unfold F_group
  refine trim_ext (E := E) ?_ (lt_cell (gr_cell hx h.col))
  unfold fnOf b_group gr
  rw [ht]
  have e5 := bool_T e2
  by_cases hc : t = 2
  · subst hc
    rw [if_pos rfl]
    simp [Rl.pv, e1, ownT, isT_at e2, e5, at_nat, e3]
  · rw [if_neg (by simpa using hc)]
    have h2 : ¬ ((t : Int) = 2) := by omega
    simp [Rl.pv, e1, ownT, isT_at e2, e5, h2]
/-- equal cells -/
def ceq : PV → PV → Bool
  | .int i, .int j => decide (i = j)
  | .non, .non => true
  | _, _ => false
@[simp] theorem eq_cell {g : Bool → Bool} {a b : PV} (ha : Cell a) (hb : Cell b) (S : AS) : eqG g a b S = .ok (.bl (g (ceq a b))) S := by
  rcases ha.or with rfl | ⟨v, rfl, _⟩ <;> rcases hb.or with rfl | ⟨u, rfl, _⟩ <;> rfl
/-- two rows clash -/
def cls (xs ys : List PV) (r : Rl) : Bool := !Fu.isNon (gr xs r) && ceq (gr xs r) (gr ys r)
theorem clash_spec {xs ys : List PV} (hx : Row xs) (hy : Row ys) {r : Rl} (h : r.Ok 10) (S : AS) : F_clash [r.pv, .tup xs, .tup ys] S = .ok (.bl (cls xs ys r)) S := by
  have e1 := group_spec hx h S
  have e2 := group_spec hy h S
  have c1 := gr_cell hx h.col
  have c2 := gr_cell hy h.col
  have e3 := eq_cell (g := id) c1 c2 S
  unfold F_clash
  refine fn_rt ?_
  unfold b_clash cls
  generalize hq : gr xs r = q at e1 e3 c1
  cases hn : Fu.isNon q <;> simp [e1, e2, e3, hn]
theorem Lclash_spec {xs ys : List PV} (hx : Row xs) (hy : Row ys) {r : Rl} (h : r.Ok 10) (S : AS) : F_Lclash [.lst [r.pv], .str r.tb, .tup xs, .tup ys] S = .ok (.str (if cls xs ys r = true then r.nm else "")) S := by
  have e1 := Lgroup_spec hx h S
  have e2 := Lgroup_spec hy h S
  have c1 := gr_cell hx h.col
  have c2 := gr_cell hy h.col
  have e3 := eq_cell (g := id) c1 c2 S
  unfold F_Lclash
  refine fn_rt ?_
  unfold b_Lclash cls
  have e0 : r.pv = .tup [.str r.nm, .str r.tb, .int r.col, r.cd.pv] := rfl
  generalize hp : r.pv = p at *
  generalize hq : gr xs r = q at e1 e3 c1
  cases hn : Fu.isNon q
  · cases hc : ceq q (gr ys r) <;> (subst e0; simp [forL, witems, e1, e2, e3, hn, hc])
  · subst e0; simp [forL, witems, e1, hn]
end LB

end
section
set_option Elab.async false
set_option linter.all false
set_option maxRecDepth 100000
set_option maxHeartbeats 4000000
/-! Live lists beside the box. -/
namespace LB
open PySem PySem.Spec PyProof.Rows L2 Fu
theorem lts_ints (n : Nat) : ∀ ns : List Int, Fu.lts n (ns.map PV.int) = true
  | [] => rfl
  | x :: xs => by
    show (Fu.lt n (.int x) && Fu.lts n (xs.map PV.int)) = true
    rw [lts_ints n xs]
    rfl
theorem box_lt {o : Option AO} (h : Bx o) (n : Nat) : ∃ a, o = some a ∧ Fu.ltO n a = true := by
  obtain ⟨ns, i, m, c, g, rfl, _⟩ := h
  refine ⟨_, rfl, ?_⟩
  simp [Fu.ltO, Fu.lts, Fu.lt, lts_ints]
theorem lts_of {n : Nat} : ∀ {xs : List PV}, (∀ x ∈ xs, Fu.lt n x = true) → Fu.lts n xs = true
  | [], _ => rfl
  | x :: xs, h => by
    unfold Fu.lts
    rw [h x List.mem_cons_self, lts_of fun y hy => h y (List.mem_cons_of_mem _ hy)]
    rfl
theorem trim_box {f : Fn} {ps : List PV} {o o' : Option AO} {T E : AS} {v : PV} (e : f ps (o :: T) = .ok v (o' :: (T ++ E))) (hb : Bx o') (hv : Fu.lt (T.length + 1) v = true) : trim f ps (o :: T) = .ok v (o' :: T) := by
  have := trim_ok e ⟨hv, by simp, fun m hm => by
    cases m with
    | zero =>
      obtain ⟨a, rfl, ha⟩ := box_lt hb (o :: T).length
      exact .inr ⟨a, rfl, ha⟩
    | succ m =>
      refine .inl ?_
      have hm : m < T.length := by simpa using hm
      show (T ++ E)[m]? = T[m]?
      exact List.getElem?_append_left hm⟩
  rw [this]
  simp
theorem pop_at {n k : Nat} {xs : List PV} {S : AS} (hS : S[n]? = some (some (.lst xs))) (hk : k < xs.length) (hl : xs.length ≤ 1000000) : popG (.ref n) [.int k] S = .ok xs[k] (S.set n (some (.lst (xs.eraseIdx k)))) := by
  have hq : seqIndex? (k : Int) xs.length = some k := by
    unfold seqIndex?
    have h0 : ¬ (k : Int) < 0 := by omega
    simp [h0, hk]
  unfold popG
  dsimp only
  rw [hS]
  dsimp only
  rw [if_pos ⟨by omega, by omega⟩, hq]
  dsimp only
  rw [List.getElem?_eq_getElem hk]
theorem last_get (o : Option AO) (T : AS) (x : Option AO) : (o :: (T ++ [x]))[T.length + 1]? = some x := by simp
theorem last_set (o : Option AO) (T : AS) (x y : Option AO) : (o :: (T ++ [x])).set (T.length + 1) y = o :: (T ++ [y]) := by simp
theorem isl_last (o : Option AO) (T : AS) (xs : List PV) : isLst (.ref (T.length + 1)) (o :: (T ++ [some (.lst xs)])) = true := by unfold isLst; simp
theorem box_spec (ns : List Int) : F_box [.lst (ns.map .int)] [] = .ok (.ref 0) [boxO ns 0 0 0 0] := by
  unfold F_box fnOf b_box
  simp [boxO, items]
end LB

end
section
set_option Elab.async false
set_option linter.all false
set_option maxRecDepth 100000
set_option maxHeartbeats 4000000
namespace T04
open PySem PySem.Spec PyProof.Rows L2 Fu
open LB (Bx boxO Cell Row Cd draw_spec draw_nat condition_spec alk alks ev ev_le code cel tr zeroE)
theorem q_draw : F_draw = LB.F_draw := rfl
theorem q_box : F_box = LB.F_box := rfl
theorem q_cond : ∀ k, F_condition k = LB.F_condition k
  | 0 => rfl
  | k + 1 => by
    show fnOf 5 (b_condition (F_condition k)) = fnOf 5 (LB.b_condition (LB.F_condition k))
    rw [q_cond k]
    rfl
theorem q_alike : ∀ k, F_Lalike k = LB.F_alike k
  | 0 => rfl
  | k + 1 => by
    show fnOf 3 (b_Lalike (F_Lalike k)) = fnOf 3 (LB.b_alike (LB.F_alike k))
    rw [q_alike k]
    rfl
theorem q_Ltruth : ∀ k, F_Ltruth k = LB.F_Ltruth k
  | 0 => rfl
  | k + 1 => by
    show fnOf 9 (b_Ltruth (F_Ltruth k)) = fnOf 9 (LB.b_Ltruth (LB.F_Ltruth k))
    rw [q_Ltruth k]
    rfl
theorem q_truth : ∀ k, F_truth k = LB.F_truth k
  | 0 => rfl
  | k + 1 => by
    show fnOf 4 (b_truth (F_truth k)) = fnOf 4 (LB.b_truth (LB.F_truth k))
    rw [q_truth k]
    rfl
theorem alike_data {p q : PV} {S : AS} (h : alk 3 p q = true) : F_Lalike 3 [p, q] S = .ok (.bl true) S := by
  rw [q_alike]
  exact LB.alike_ok 3 _ _ S h
/-- the word of an outcome -/
def wd : Option Nat → Str
  | none => "error"
  | some 0 => "false"
  | some 1 => "unknown"
  | some _ => "true"
theorem word_T {S : AS} {n r : Nat} (h : S[n]? = some (tr r)) (hr : r ≤ 2) : F_Truth_word [.ref n] S = .ok (.str (wd (some r))) S := by
  have h3 : r = 0 ∨ r = 1 ∨ r = 2 := by omega
  unfold F_Truth_word
  refine fn_rt ?_
  unfold b_Truth_word
  rcases h3 with rfl | rfl | rfl <;> simp [LB.rank_at h, wd]
theorem outcome_spec {xs : List PV} (hx : Row xs) {c : Cd} (hl : c.lev ≤ 5) (hf : c.fine) (S : AS) : F_outcome [c.pv, .tup xs] S = .ok (.str (wd (ev xs c))) S := by
  have T := LB.truth_spec hx 5 c S hl hf
  rw [← q_truth] at T
  unfold F_outcome
  cases q : ev xs c with
  | none =>
    obtain ⟨E, e⟩ := T.2 q
    refine LB.trim_ext (E := E) ?_ rfl
    unfold fnOf b_outcome tryM
    have hk : List.lookup ("ZeroDivisor" : Str) [(("BookError" : Str), false), (("Refusal" : Str), false), (("ZeroDivisor" : Str), true)] = some true := by decide
    simp [propF, e, pickH, wd, hk]
  | some r =>
    obtain ⟨E, n, e1, e2⟩ := T.1 r q
    have e3 := word_T e2 (ev_le xs c r q)
    refine LB.trim_ext (E := E) ?_ rfl
    unfold fnOf b_outcome tryM
    simp [propF, e1, e3, LB.isT_at e2]
end T04

end
section
set_option Elab.async false
set_option linter.all false
set_option maxRecDepth 100000
set_option maxHeartbeats 4000000
namespace T04
open PySem PySem.Spec PyProof.Rows L2 Fu
open LB (Bx boxO Cell Row Cd draw_spec draw_nat condition_spec alk alks ev ev_le code cel tr zeroE)
theorem every_spec (S : AS) : F_every [] S = .ok (.lst F_all_rows) S := by
  kernel_rfl
def RwP (r : PV) : Prop := ∃ xs, r = .tup xs ∧ Row xs
theorem all_rows_rw : ∀ r ∈ F_all_rows, RwP r := by
  have hv : ∀ p ∈ ([.non, .int 0, .int 1, .int 2] : List PV), Cell p := by
    intro p hp
    simp at hp
    exact hp
  intro r hr
  unfold F_all_rows rows3 at hr
  simp only [List.mem_flatMap, List.mem_map] at hr
  obtain ⟨a, ha, b, hb, c, hc, rfl⟩ := hr
  exact ⟨[a, b, c], rfl, rfl, by simp; exact ⟨hv a ha, hv b hb, hv c hc⟩⟩
theorem all_rows_len : F_all_rows.length = 64 := by decide +kernel
def wq (c : Cd) : PV → Option Nat
  | .tup xs => ev xs c
  | _ => none
theorem wq_le {c : Cd} {q : PV} {r : Nat} (h : wq c q = some r) : r ≤ 2 := by
  unfold wq at h
  split at h
  · exact ev_le _ c r h
  · cases h
def tq (c : Cd) (q : PV) : Bool := decide (code (wq c q) = 2)
def lq (c : Cd) (q : PV) : Bool := decide (code (wq c q) > 1)
theorem cases_wq (c : Cd) (q : PV) : wq c q = none ∨ wq c q = some 0 ∨ wq c q = some 1 ∨ wq c q = some 2 := by
  cases h : wq c q with
  | none => exact .inl rfl
  | some r =>
    have := wq_le h
    have h3 : r = 0 ∨ r = 1 ∨ r = 2 := by omega
    rcases h3 with rfl | rfl | rfl <;> simp
theorem tq_wd (c : Cd) (q : PV) : decide (wd (wq c q) = "true") = tq c q := by
  unfold tq
  rcases cases_wq c q with h | h | h | h <;> rw [h] <;> decide
theorem lq_wd (c : Cd) (q : PV) (S : AS) : inW false (.str (wd (wq c q))) (.tup [.str "true", .str "error"]) S = .ok (.bl (lq c q)) S := by
  unfold lq
  rcases cases_wq c q with h | h | h | h <;> rw [h] <;> rfl
theorem outcome_q {c : Cd} (hl : c.lev ≤ 5) (hf : c.fine) {q : PV} (hq : RwP q) (S : AS) : F_outcome [c.pv, q] S = .ok (.str (wd (wq c q))) S := by
  obtain ⟨xs, rfl, hx⟩ := hq
  exact outcome_spec hx hl hf S
theorem Ltruth_q {c : Cd} (hl : c.lev ≤ 5) (hf : c.fine) {q : PV} (hq : RwP q) (S : AS) : F_Ltruth 5 [c.pv, q] S = .ok (.int (code (wq c q))) S := by
  obtain ⟨xs, rfl, hx⟩ := hq
  rw [q_Ltruth]
  exact LB.Ltruth_spec hx S 5 c hl hf
end T04

end
section
set_option Elab.async false
set_option linter.all false
set_option maxRecDepth 100000
set_option maxHeartbeats 400000
namespace T04
open PySem PySem.Spec PyProof.Rows L2 Fu
open LB (Bx boxO Cell Row Cd draw_spec draw_nat condition_spec alk alks ev ev_le code cel tr zeroE)
theorem fil_all {α : Type} (l : List α) : l.filter (fun _ => true) = l := by simp
section
variable {R : List PV} {c : Cd}
theorem outcomes_gen (hL : R.length = 64) (hR : ∀ q ∈ R, RwP q) (hl : c.lev ≤ 5) (hf : c.fine) (S : AS) : fnOf 2 (retS (callB tupG1 (consA (valN (compN (genI R) [1] (nameX 1) yesT (callN 2 F_outcome (consA (varF 0) (consA (varF 1) nilA))))) nilA))) [c.pv] S = .ok (.tup (R.map fun q => .str (wd (wq c q)))) S := by
  have hc := compL_map (g := nameX 1) (t := yesT) (e := callN 2 F_outcome (consA (varF 0) (consA (varF 1) nilA))) (η := [.val c.pv, .no]) (S := S) (fun _ => true) (fun q => .str (wd (wq c q))) R [] (fun q hq => ⟨_, e_nameX, rfl, fun _ => by simp [outcome_q hl hf (hR q hq)]⟩) (by simp [hL])
  rw [fil_all, List.nil_append] at hc
  refine fn_rt ?_
  simp [wipeS, hc, tupG1, litems, hL]
theorem outcomes_spec {c : Cd} (hl : c.lev ≤ 5) (hf : c.fine) (S : AS) : F_outcomes [c.pv] S = .ok (.tup (F_all_rows.map fun q => .str (wd (wq c q)))) S := by
  unfold F_outcomes b_outcomes
  exact outcomes_gen all_rows_len all_rows_rw hl hf S
theorem true_rows_gen (hL : R.length = 64) (hR : ∀ q ∈ R, RwP q) (hl : c.lev ≤ 5) (hf : c.fine) (S : AS) : fnOf 2 (retS (valN (compN (genI R) [1] (nameX 1) (tstF (opF (eqG id) (callN 2 F_outcome (consA (varF 0) (consA (varF 1) nilA))) (cF (.str "true")))) (varF 1)))) [c.pv] S = .ok (.lst (R.filter (tq c))) S := by
  have hc := compL_map (g := nameX 1) (t := (tstF (opF (eqG id) (callN 2 F_outcome (consA (varF 0) (consA (varF 1) nilA))) (cF (.str "true"))))) (e := varF 1) (η := [.val c.pv, .no]) (S := S) (tq c) (id) R [] (fun q hq => ⟨_, e_nameX, by simp [outcome_q hl hf (hR q hq), tq_wd], fun _ => by simp⟩) (by simp [hL])
  rw [List.map_id, List.nil_append] at hc
  refine fn_rt ?_
  simp [wipeS, hc]
theorem true_rows_spec {c : Cd} (hl : c.lev ≤ 5) (hf : c.fine) (S : AS) : F_true_rows [c.pv] S = .ok (.lst (F_all_rows.filter (tq c))) S := by
  unfold F_true_rows b_true_rows
  exact true_rows_gen all_rows_len all_rows_rw hl hf S
theorem live_rows_gen (hL : R.length = 64) (hR : ∀ q ∈ R, RwP q) (hl : c.lev ≤ 5) (hf : c.fine) (S : AS) : fnOf 2 (retS (liveF (compN (genI R) [1] (nameX 1) (tstF (opF (inW false) (callN 2 F_outcome (consA (varF 0) (consA (varF 1) nilA))) (tupF (consA (cF (.str "true")) (consA (cF (.str "error")) nilA))))) (varF 1)))) [c.pv] S = .ok (.ref S.length) (S ++ [some (.lst (R.filter (lq c)))]) := by
  have hc := compL_map (g := nameX 1) (t := (tstF (opF (inW false) (callN 2 F_outcome (consA (varF 0) (consA (varF 1) nilA))) (tupF (consA (cF (.str "true")) (consA (cF (.str "error")) nilA)))))) (e := varF 1) (η := [.val c.pv, .no]) (S := S) (lq c) (id) R [] (fun q hq => ⟨_, e_nameX, by simp [outcome_q hl hf (hR q hq), lq_wd], fun _ => by simp⟩) (by simp [hL])
  rw [List.map_id, List.nil_append] at hc
  refine fn_rt ?_
  simp [wipeS, hc]
theorem live_rows_spec {c : Cd} (hl : c.lev ≤ 5) (hf : c.fine) (S : AS) : F_live_rows [c.pv] S = .ok (.ref S.length) (S ++ [some (.lst (F_all_rows.filter (lq c)))]) := by
  unfold F_live_rows b_live_rows
  exact live_rows_gen all_rows_len all_rows_rw hl hf S
theorem codes_spec {c : Cd} (hl : c.lev ≤ 5) (hf : c.fine) (S : AS) : F_codes [c.pv] S = .ok (.lst (F_all_rows.map fun q => .int (code (wq c q)))) S := by
  have hL := all_rows_len
  have hR := all_rows_rw
  have ee := every_spec S
  generalize F_all_rows = R at hL hR ee ⊢
  have hc := compL_map (g := nameX 1) (t := yesT) (e := callN 2 (F_Ltruth 5) (consA (varF 0) (consA (varF 1) nilA))) (η := [.val c.pv, .no]) (S := S) (fun _ => true) (fun q => .int (code (wq c q))) R [] (fun q hq => ⟨_, e_nameX, rfl, fun _ => by simp [Ltruth_q hl hf (hR q hq)]⟩) (by simp [hL])
  rw [fil_all, List.nil_append] at hc
  unfold F_codes
  refine fn_rt ?_
  unfold b_codes
  simp [wipeS, hc, ee, witems]
end
end T04

end
section
set_option Elab.async false
set_option linter.all false
set_option maxRecDepth 100000
set_option maxHeartbeats 400000
namespace T04
open PySem PySem.Spec PyProof.Rows L2 Fu
open LB (Bx boxO Cell Row Cd draw_spec draw_nat condition_spec alk alks ev ev_le code cel tr zeroE)
/-- a loop that looks for one -/
theorem forL_find {i : Nat} {b : FS} {S : AS} (P : Sls → Prop) (hit : PV → Bool) (rt : PV → PV) : ∀ (ps : List PV) (η : Sls), (∀ η p, p ∈ ps → P η → P (η.set i (.val p)) ∧ b (η.set i (.val p)) S = if hit p = true then .rt (rt p) S else .nx (η.set i (.val p)) S) → P η →
    (∃ p, ps.find? hit = some p ∧ forL (nameG i) b ps η S = .rt (rt p) S) ∨ (ps.find? hit = none ∧ ∃ η', P η' ∧ forL (nameG i) b ps η S = .nx η' S)
  | [], η, _, hP => .inr ⟨rfl, η, hP, rfl⟩
  | p :: ps, η, hs, hP => by
    obtain ⟨h1, h2⟩ := hs η p List.mem_cons_self hP
    have un : forL (nameG i) b (p :: ps) η S = (match b (η.set i (.val p)) S with
        | .nx η2 S2 => forL (nameG i) b ps η2 S2
        | .ct η2 S2 => forL (nameG i) b ps η2 S2
        | .bk η2 S2 => .nx η2 S2
        | r => r) := rfl
    rw [un, h2]
    cases hh : hit p with
    | true =>
      refine .inl ⟨p, ?_, ?_⟩
      · rw [List.find?_cons, hh]
      · rw [if_pos rfl]
    | false =>
      rw [List.find?_cons, hh]
      rcases forL_find P hit rt ps _ (fun η q hq => hs η q (List.mem_cons_of_mem _ hq)) h1 with ⟨q, e1, e2⟩ | ⟨e1, η', e2, e3⟩
      · exact .inl ⟨q, e1, by rw [if_neg Bool.false_ne_true]; exact e2⟩
      · exact .inr ⟨e1, η', e2, by rw [if_neg Bool.false_ne_true]; exact e3⟩
/-! ### numbers of rows -/
def gR (R : List PV) (k : Nat) : PV := R.getD k .non
theorem rows_range (R : List PV) : R = (List.range R.length).map (gR R) := by
  apply List.ext_getElem
  · simp
  · intro i h1 h2
    simp [gR, List.getD_eq_getElem?_getD, List.getElem?_eq_getElem h1]
def nOf : PV → Nat
  | .int k => k.toNat
  | _ => 0
theorem rangeL_eq (n : Nat) : rangeL 0 n = (List.range n).map fun k : Nat => PV.int (k : Int) := by
  unfold rangeL
  simp
theorem filt_range {R : List PV} (pr : PV → Bool) : ((rangeL 0 R.length).filter fun p => pr (gR R (nOf p))).map (fun p => gR R (nOf p)) = R.filter pr := by
  conv => rhs; rw [rows_range R]
  rw [rangeL_eq, List.filter_map, List.filter_map, List.map_map]
  rfl
theorem find_range {R : List PV} (pr : PV → Bool) : ((rangeL 0 R.length).find? fun p => pr (gR R (nOf p))).map (fun p => gR R (nOf p)) = R.find? pr := by
  conv => rhs; rw [rows_range R]
  rw [rangeL_eq, List.find?_map, List.find?_map, Option.map_map]
  rfl
theorem mem_range {R : List PV} {p : PV} (h : p ∈ rangeL 0 R.length) : ∃ k : Nat, p = .int k ∧ k < R.length := by
  rw [rangeL_eq] at h
  obtain ⟨k, hk, rfl⟩ := List.mem_map.mp h
  exact ⟨k, rfl, List.mem_range.mp hk⟩
theorem at_R {R : List PV} {k : Nat} (h : k < R.length) (S : AS) : ixG (.lst R) (.int k) S = .ok (gR R k) S := by
  rw [g_ixL, at_nat, List.getElem?_eq_getElem h]
  simp [gR, List.getD_eq_getElem?_getD, List.getElem?_eq_getElem h, ofO]
theorem at_m {R : List PV} {k : Nat} (f : PV → PV) (h : k < R.length) (S : AS) : ixG (.lst (R.map f)) (.int k) S = .ok (f (gR R k)) S := by
  rw [g_ixL, at_nat, List.getElem?_map, List.getElem?_eq_getElem h]
  simp [gR, List.getD_eq_getElem?_getD, List.getElem?_eq_getElem h, ofO]
/-! ### the row that escapes -/
def hq (c o : Cd) (q : PV) : Bool := lq c q && !tq o q
def escR (R : List PV) (c o : Cd) : PV := (R.find? (hq c o)).getD .non
theorem escape_spec {c o : Cd} (hl : c.lev ≤ 5) (hf : c.fine) (hl2 : o.lev ≤ 5) (hf2 : o.fine) (S : AS) : F_escape [c.pv, o.pv] S = .ok (escR F_all_rows c o) S := by
  have hR := all_rows_rw
  have hv := live_rows_spec hl hf S
  unfold escR
  generalize F_all_rows = R at hR hv ⊢
  have fr : freezeF (callN 1 F_live_rows (consA (varF 0) nilA)) [.val c.pv, .val o.pv, .no] S = .ok (.lst (R.filter (lq c))) (S ++ [none]) := by
    rw [e_freeze (S1 := S ++ [some (.lst (R.filter (lq c)))]) (n := S.length) (ps := R.filter (lq c)) (by simp [hv]) (LB.cat_at _ _), LB.cat_put]
  have lp := forL_find (i := 2) (b := ifS (tstF (opF (eqG not) (callN 2 F_outcome (consA (varF 1) (consA (varF 2) nilA))) (cF (.str "true")))) (retS (bvarF 2)) nextS) (S := S ++ [none]) (fun η => ∃ z, η = [.val c.pv, .val o.pv, z]) (fun q => !tq o q) id (R.filter (lq c)) [.val c.pv, .val o.pv, .no] (fun η q hq ⟨z, e⟩ => by
    subst e
    have h1 := outcome_q hl2 hf2 (hR q (List.mem_filter.mp hq).1) (S ++ [none])
    refine ⟨⟨_, rfl⟩, ?_⟩
    cases ht : tq o q with
    | true => simp [h1, tq_wd, ht]
    | false => simp [h1, tq_wd, ht]) ⟨_, rfl⟩
  have ff : (R.filter (lq c)).find? (fun q => !tq o q) = R.find? (hq c o) := by
    rw [List.find?_filter]
    congr 1
    funext q
    unfold hq
    cases lq c q <;> cases tq o q <;> rfl
  rw [ff] at lp
  have hlt : Fu.lt S.length ((R.find? (hq c o)).getD .non) = true := by
    cases hh : R.find? (hq c o) with
    | none => rfl
    | some q =>
      obtain ⟨xs, rfl, hx⟩ := hR q (List.mem_of_find?_eq_some hh)
      show Fu.lt S.length (.tup xs) = true
      unfold Fu.lt
      exact LB.lts_of fun y hy => LB.lt_cell (hx.cell y hy)
  unfold F_escape
  refine LB.trim_ext (E := [none]) ?_ hlt
  refine fn_rt ?_
  unfold b_escape
  rcases lp with ⟨q, e1, e2⟩ | ⟨e1, η', e2, e3⟩
  · rw [e1, e_seq, e_forS, e_anyI]
    rw [show ([c.pv, o.pv].map Sl.val ++ List.replicate (3 - [c.pv, o.pv].length) Sl.no) = [.val c.pv, .val o.pv, .no] from rfl, fr]
    simp only [Fu.R.bind_ok, witems, ofO, lift_ok, e2]
    rfl
  · rw [e1, e_seq, e_forS, e_anyI]
    rw [show ([c.pv, o.pv].map Sl.val ++ List.replicate (3 - [c.pv, o.pv].length) Sl.no) = [.val c.pv, .val o.pv, .no] from rfl, fr]
    simp only [Fu.R.bind_ok, witems, ofO, lift_ok, e3]
    rfl
theorem Lescape_spec {c o : Cd} (S : AS) : F_Lescape [.lst (F_all_rows.map fun q => .int (code (wq c q))), .lst (F_all_rows.map fun q => .int (code (wq o q)))] S = .ok (escR F_all_rows c o) S := by
  have ee := every_spec S
  have hL := all_rows_len
  unfold escR
  generalize F_all_rows = R at ee hL ⊢
  have lp := forL_find (i := 3) (b := ifS (andT (tstF (opF gtG (opF ixG (bvarF 0) (bvarF 3)) (cF (.int 1)))) (tstF (opF (eqG not) (opF ixG (bvarF 1) (bvarF 3)) (cF (.int 2))))) (retS (opF ixG (bvarF 2) (bvarF 3))) nextS) (S := S) (fun η => ∃ z, η = [.val (.lst (R.map fun q => .int (code (wq c q)))), .val (.lst (R.map fun q => .int (code (wq o q)))), .val (.lst R), z]) (fun p => hq c o (gR R (nOf p))) (fun p => gR R (nOf p)) (rangeL 0 R.length)
    [.val (.lst (R.map fun q => .int (code (wq c q)))), .val (.lst (R.map fun q => .int (code (wq o q)))), .val (.lst R), .no] (fun η p hp ⟨z, e⟩ => by
    subst e
    obtain ⟨k, rfl, hk⟩ := mem_range hp
    have h1 := at_m (fun q => .int (code (wq c q))) hk S
    have h2 := at_m (fun q => .int (code (wq o q))) hk S
    have h3 := at_R hk S
    have hn : nOf (.int k) = k := by simp [nOf]
    refine ⟨⟨_, rfl⟩, ?_⟩
    rw [hn]
    unfold hq lq tq
    by_cases a1 : code (wq c (gR R k)) > 1
    · by_cases a2 : code (wq o (gR R k)) = 2
      · simp [-g_ixL, h1, h2, h3, a1, a2]
      · simp [-g_ixL, h1, h2, h3, a1, a2]
    · simp [-g_ixL, h1, h2, h3, a1]) ⟨_, rfl⟩
  have ff := find_range (R := R) (hq c o)
  unfold F_Lescape
  refine fn_rt ?_
  unfold b_Lescape
  refine (seq_nx [.val (.lst (R.map fun q => .int (code (wq c q)))), .val (.lst (R.map fun q => .int (code (wq o q)))), .val (.lst R), .no] S (by simp [ee])).trans ?_
  have hr : range1I (consA (cF (.int 64)) nilA) [.val (.lst (R.map fun q => .int (code (wq c q)))), .val (.lst (R.map fun q => .int (code (wq o q)))), .val (.lst R), .no] S = .ok (rangeL 0 R.length) S := by
    rw [hL]
    simp
  rcases lp with ⟨q, e1, e2⟩ | ⟨e1, η', e2, e3⟩
  · rw [← ff, e1, e_seq, e_forS, hr]
    simp only [lift_ok, e2]
    rfl
  · rw [← ff, e1, e_seq, e_forS, hr]
    simp only [lift_ok, e3]
    rfl
end T04

end
section
set_option Elab.async false
set_option linter.all false
set_option maxRecDepth 100000
set_option maxHeartbeats 400000
namespace T04
open PySem PySem.Spec PyProof.Rows L2 Fu
open LB (Bx boxO Cell Row Cd draw_spec draw_nat condition_spec alk alks ev ev_le code cel tr zeroE)
/-! ### equal tables -/
def Leaf (p : PV) : Prop := isD p = true ∧ (toD p).canLay0 = true ∧ (toD p).depth = 0
theorem leaf_map {f : PV → PV} (hf : ∀ q, Leaf (f q)) : ∀ l : List PV, isDs (l.map f) = true ∧ PyData.canLayAll0 (toDs (l.map f)) = true ∧ PyData.depthAll (toDs (l.map f)) = 0
  | [] => ⟨rfl, rfl, rfl⟩
  | x :: l => by
    obtain ⟨h1, h2, h3⟩ := leaf_map hf l
    obtain ⟨g1, g2, g3⟩ := hf x
    refine ⟨?_, ?_, ?_⟩
    · rw [List.map_cons]
      unfold isDs
      rw [g1, h1]
      rfl
    · rw [List.map_cons]
      unfold toDs
      simp only [PyData.canLayAll0, g2, h2, Bool.and_self]
    · rw [List.map_cons]
      unfold toDs
      simp only [PyData.depthAll, g3, h3, Nat.max_self]
theorem eqv_map {f g : PV → PV} {b : PV → Bool} (h : ∀ q, PyData.eqv (toD (f q)) (toD (g q)) = b q) : ∀ l : List PV, PyData.eqvAll (toDs (l.map f)) (toDs (l.map g)) = l.all b
  | [] => rfl
  | x :: l => by
    show (PyData.eqv (toD (f x)) (toD (g x)) && PyData.eqvAll (toDs (l.map f)) (toDs (l.map g))) = _
    rw [h, eqv_map h l]
    rfl
theorem eq_tabT {f g : PV → PV} {b : PV → Bool} (hf : ∀ q, Leaf (f q)) (hg : ∀ q, Leaf (g q)) (h : ∀ q, PyData.eqv (toD (f q)) (toD (g q)) = b q) (l : List PV) (S : AS) : eqG id (.tup (l.map f)) (.tup (l.map g)) S = .ok (.bl (l.all b)) S := by
  obtain ⟨a1, a2, a3⟩ := leaf_map hf l
  obtain ⟨b1, b2, b3⟩ := leaf_map hg l
  have s1 : SeqAt.shaped (toD (.tup (l.map f))) = true := by
    show (PyData.canLayAll0 (toDs (l.map f)) && decide (PyData.depthAll (toDs (l.map f)) + 1 ≤ 64)) = true
    rw [a2, a3]
    rfl
  have s2 : SeqAt.shaped (toD (.tup (l.map g))) = true := by
    show (PyData.canLayAll0 (toDs (l.map g)) && decide (PyData.depthAll (toDs (l.map g)) + 1 ≤ 64)) = true
    rw [b2, b3]
    rfl
  have e : eqv (.tup (l.map f)) (.tup (l.map g)) = if (isD (.tup (l.map f)) && isD (.tup (l.map g)) && SeqAt.shaped (toD (.tup (l.map f))) && SeqAt.shaped (toD (.tup (l.map g)))) = true then some (PyData.eqvAll (toDs (l.map f)) (toDs (l.map g))) else none := rfl
  rw [show isD (.tup (l.map f)) = true from a1, show isD (.tup (l.map g)) = true from b1, s1, s2, eqv_map h] at e
  unfold eqG
  rw [e]
  rfl
theorem eq_tabL {f g : PV → PV} {b : PV → Bool} (hf : ∀ q, Leaf (f q)) (hg : ∀ q, Leaf (g q)) (h : ∀ q, PyData.eqv (toD (f q)) (toD (g q)) = b q) (l : List PV) (S : AS) : eqG id (.lst (l.map f)) (.lst (l.map g)) S = .ok (.bl (l.all b)) S := by
  obtain ⟨a1, a2, a3⟩ := leaf_map hf l
  obtain ⟨b1, b2, b3⟩ := leaf_map hg l
  have s1 : SeqAt.shaped (toD (.lst (l.map f))) = true := by
    show (PyData.canLayAll0 (toDs (l.map f)) && decide (PyData.depthAll (toDs (l.map f)) + 1 ≤ 64)) = true
    rw [a2, a3]
    rfl
  have s2 : SeqAt.shaped (toD (.lst (l.map g))) = true := by
    show (PyData.canLayAll0 (toDs (l.map g)) && decide (PyData.depthAll (toDs (l.map g)) + 1 ≤ 64)) = true
    rw [b2, b3]
    rfl
  have e : eqv (.lst (l.map f)) (.lst (l.map g)) = if (isD (.lst (l.map f)) && isD (.lst (l.map g)) && SeqAt.shaped (toD (.lst (l.map f))) && SeqAt.shaped (toD (.lst (l.map g)))) = true then some (PyData.eqvAll (toDs (l.map f)) (toDs (l.map g))) else none := rfl
  rw [show isD (.lst (l.map f)) = true from a1, show isD (.lst (l.map g)) = true from b1, s1, s2, eqv_map h] at e
  unfold eqG
  rw [e]
  rfl
theorem wd_ok (o : Option Nat) : PyData.strOk (wd o) = true := by
  unfold wd
  split <;> decide +kernel
theorem leaf_wd (c : Cd) (q : PV) : Leaf (.str (wd (wq c q))) := ⟨rfl, wd_ok _, rfl⟩
theorem leaf_code (c : Cd) (q : PV) : Leaf (.int (code (wq c q))) := ⟨rfl, rfl, rfl⟩
def sameQ (c o : Cd) (q : PV) : Bool := decide (wq c q = wq o q)
theorem wd_same (c o : Cd) (q : PV) : PyData.eqv (toD (.str (wd (wq c q)))) (toD (.str (wd (wq o q)))) = sameQ c o q := by
  unfold sameQ
  rcases cases_wq c q with h | h | h | h <;> rcases cases_wq o q with g | g | g | g <;> rw [h, g] <;> rfl
theorem code_same (c o : Cd) (q : PV) : PyData.eqv (toD (.int (code (wq c q)))) (toD (.int (code (wq o q)))) = sameQ c o q := by
  unfold sameQ
  rcases cases_wq c q with h | h | h | h <;> rcases cases_wq o q with g | g | g | g <;> rw [h, g] <;> rfl
theorem alike_spec {c o : Cd} (hl : c.lev ≤ 5) (hf : c.fine) (hl2 : o.lev ≤ 5) (hf2 : o.fine) (S : AS) : F_alike [c.pv, o.pv] S = .ok (.bl (F_all_rows.all (sameQ c o))) S := by
  have e1 := outcomes_spec hl hf S
  have e2 := outcomes_spec hl2 hf2 S
  have e3 := eq_tabT (leaf_wd c) (leaf_wd o) (wd_same c o) F_all_rows S
  generalize F_all_rows = R at e1 e2 e3 ⊢
  unfold F_alike
  refine fn_rt ?_
  unfold b_alike
  simp [e1, e2, e3]
/-! ### all that is told of a table -/
theorem alk_leaf {k : Nat} (z : Str) : alk (k + 1) (.str z) (.str z) = true := by
  unfold alk
  simp
theorem alk_cell {k : Nat} {p : PV} (h : Cell p) : alk (k + 1) p p = true := by
  rcases h with rfl | rfl | rfl | rfl <;> rfl
theorem alk_row {k : Nat} {r : PV} (h : RwP r) : alk (k + 2) r r = true := by
  obtain ⟨xs, rfl, hx⟩ := h
  show (alks (alk (k + 1)) xs xs && decide (xs.length < 1000000)) = true
  rw [LB.alks_of fun x hm => alk_cell (hx.cell x hm), hx.len]
  rfl
theorem alk_words {R : List PV} {f : PV → Str} (hL : R.length = 64) : alk 3 (.tup (R.map fun q => .str (f q))) (.tup (R.map fun q => .str (f q))) = true := by
  show (alks (alk 2) _ _ && decide ((R.map fun q => PV.str (f q)).length < 1000000)) = true
  rw [LB.alks_of (fun x hm => by
    obtain ⟨q, _, rfl⟩ := List.mem_map.mp hm
    exact alk_leaf _), List.length_map, hL]
  rfl
theorem fl_len {R : List PV} (hL : R.length = 64) (p : PV → Bool) : (R.filter p).length ≤ 64 := by
  rw [← hL]
  exact List.length_filter_le _ _
theorem alks_fil {R : List PV} (hR : ∀ r ∈ R, RwP r) (p : PV → Bool) : alks (alk 2) (R.filter p) (R.filter p) = true := LB.alks_of fun x hm => alk_row (k := 0) (hR x (List.mem_filter.mp hm).1)
theorem alk_fil {R : List PV} (hL : R.length = 64) (hR : ∀ r ∈ R, RwP r) (p : PV → Bool) : alk 3 (.lst (R.filter p)) (.lst (R.filter p)) = true := by
  show (alks (alk 2) _ _ && decide ((R.filter p).length < 1000000)) = true
  have := fl_len hL p
  rw [alks_fil hR p, decide_eq_true (by omega)]
  rfl
def wI : PV → PV
  | .int 0 => .str "false"
  | .int 1 => .str "unknown"
  | .int 2 => .str "true"
  | _ => .str "error"
theorem wI_code (c : Cd) (q : PV) : wI (.int (code (wq c q))) = .str (wd (wq c q)) := by
  rcases cases_wq c q with h | h | h | h <;> rw [h] <;> rfl
theorem at_w (c : Cd) (q : PV) (S : AS) : ixG (.tup [.str "false", .str "unknown", .str "true", .str "error"]) (.int (code (wq c q))) S = .ok (wI (.int (code (wq c q)))) S := by
  rcases cases_wq c q with h | h | h | h <;> rw [h] <;> rfl
theorem tables_told_spec {c : Cd} (hl : c.lev ≤ 5) (hf : c.fine) {k : Nat} (hk : k < 64) (S : AS) : F_tables_told [c.pv, .lst (F_all_rows.map fun q => .int (code (wq c q))), .int k] S = .ok (.bl true) S := by
  have e0 := every_spec S
  have e1 := outcomes_spec hl hf S
  have e2 := true_rows_spec hl hf S
  have e3 := live_rows_spec hl hf S
  have hL := all_rows_len
  have hR := all_rows_rw
  generalize F_all_rows = R at e0 e1 e2 e3 hL hR ⊢
  have hk1 : R[k]? = some (gR R k) := by
    rw [List.getElem?_eq_getElem (by omega)]
    simp [gR, List.getD_eq_getElem?_getD, List.getElem?_eq_getElem (show k < R.length by omega)]
  have hm : gR R k ∈ R := List.mem_of_getElem? hk1
  have e4 := outcome_q hl hf (hR _ hm) S
  have a1 : F_Lalike 3 [.tup (R.map fun q => .str (wd (wq c q))), .tup (R.map fun q => .str (wd (wq c q)))] S = .ok (.bl true) S := alike_data (alk_words hL)
  have a2 : F_Lalike 3 [.str (wd (wq c (gR R k))), .str (wd (wq c (gR R k)))] S = .ok (.bl true) S := alike_data (alk_leaf _)
  have a3 : F_Lalike 3 [.lst (R.filter (tq c)), .lst (R.filter (tq c))] S = .ok (.bl true) S := alike_data (alk_fil hL hR _)
  have a4 : F_Lalike 3 [.ref S.length, .lst (R.filter (lq c))] (S ++ [some (.lst (R.filter (lq c)))]) = .ok (.bl true) (S ++ [some (.lst (R.filter (lq c)))]) := by
    rw [q_alike]
    have := fl_len hL (lq c)
    exact LB.alike_ref (LB.cat_at _ _) (alks_fil hR _) (by omega)
  have hw := compL_map (g := nameX 5) (t := yesT) (e := opF ixG (tupF (consA (cF (.str "false")) (consA (cF (.str "unknown")) (consA (cF (.str "true")) (consA (cF (.str "error")) nilA))))) (bvarF 5)) (η := [.val c.pv, .val (.lst (R.map fun q => .int (code (wq c q)))), .val (.int k), .val (.lst R), .no, .no, .no]) (S := S) (fun _ => true) wI (R.map fun q => .int (code (wq c q))) [] (fun p hp => by
    obtain ⟨q, _, rfl⟩ := List.mem_map.mp hp
    exact ⟨_, e_nameX, rfl, fun _ => by simp [-g_ixT, at_w]⟩) (by simp [hL])
  rw [fil_all, List.nil_append, List.map_map, show (wI ∘ fun q => PV.int (code (wq c q))) = fun q => PV.str (wd (wq c q)) from funext fun q => wI_code c q] at hw
  have hT := compL_map (g := nameX 6) (t := tstF (opF (eqG id) (opF ixG (bvarF 1) (bvarF 6)) (cF (.int 2)))) (e := opF ixG (bvarF 3) (bvarF 6)) (η := [.val c.pv, .val (.lst (R.map fun q => .int (code (wq c q)))), .val (.int k), .val (.lst R), .val (.tup (R.map fun q => .str (wd (wq c q)))), .no, .no]) (S := S) (fun p => tq c (gR R (nOf p))) (fun p => gR R (nOf p)) (rangeL 0 R.length) [] (fun p hp => by
    obtain ⟨j, rfl, hj⟩ := mem_range hp
    have h1 := at_m (fun q => .int (code (wq c q))) hj S
    have h3 := at_R hj S
    have hn : nOf (.int j) = j := by simp [nOf]
    exact ⟨_, e_nameX, by simp [-g_ixL, h1, hn, tq], fun _ => by simp [-g_ixL, h3, hn]⟩) (by simp [rangeL, hL])
  rw [List.nil_append, filt_range (tq c), hL] at hT
  have hG : ∀ S : AS, compL (nameX 6) (tstF (opF gtG (opF ixG (bvarF 1) (bvarF 6)) (cF (.int 1)))) (opF ixG (bvarF 3) (bvarF 6)) (rangeL 0 64) [] [.val c.pv, .val (.lst (R.map fun q => .int (code (wq c q)))), .val (.int k), .val (.lst R), .val (.tup (R.map fun q => .str (wd (wq c q)))), .no, .no] S = .ok (R.filter (lq c)) S := fun S => by
    have hG := compL_map (g := nameX 6) (t := tstF (opF gtG (opF ixG (bvarF 1) (bvarF 6)) (cF (.int 1)))) (e := opF ixG (bvarF 3) (bvarF 6)) (η := [.val c.pv, .val (.lst (R.map fun q => .int (code (wq c q)))), .val (.int k), .val (.lst R), .val (.tup (R.map fun q => .str (wd (wq c q)))), .no, .no]) (S := S) (fun p => lq c (gR R (nOf p))) (fun p => gR R (nOf p)) (rangeL 0 R.length) [] (fun p hp => by
      obtain ⟨j, rfl, hj⟩ := mem_range hp
      have h1 := at_m (fun q => .int (code (wq c q))) hj S
      have h3 := at_R hj S
      have hn : nOf (.int j) = j := by simp [nOf]
      exact ⟨_, e_nameX, by simp [-g_ixL, h1, hn, lq], fun _ => by simp [-g_ixL, h3, hn]⟩) (by simp [rangeL, hL])
    rw [List.nil_append, filt_range (lq c), hL] at hG
    exact hG
  generalize hZ : (R.map fun q => PV.int (code (wq c q))) = Z at *
  generalize hV : (R.map fun q => PV.str (wd (wq c q))) = V9 at *
  have hk2 : V9[k]? = some (.str (wd (wq c (gR R k)))) := by
    rw [← hV, List.getElem?_map, hk1]
    rfl
  have hVl : V9.length ≤ 1000000 := by
    rw [← hV, List.length_map]
    omega
  unfold F_tables_told
  refine LB.trim_ext (E := [some (.lst (R.filter (lq c)))]) ?_ rfl
  refine fn_rt ?_
  unfold b_tables_told
  refine (seq_nx [.val c.pv, .val (.lst Z), .val (.int k), .val (.lst R), .no, .no, .no] S (by simp [e0])).trans ?_
  refine (seq_nx [.val c.pv, .val (.lst Z), .val (.int k), .val (.lst R), .val (.tup V9), .no, .no] S (by simp [wipeS, hw, witems, tupG1, litems, hVl])).trans ?_
  refine (seq_nx [.val c.pv, .val (.lst Z), .val (.int k), .val (.lst R), .val (.tup V9), .no, .no] S (by simp [e1, a1, at_nat, hk1, hk2, e4, a2])).trans ?_
  refine (seq_nx [.val c.pv, .val (.lst Z), .val (.int k), .val (.lst R), .val (.tup V9), .no, .no] S (by simp [e2, wipeS, hT, a3])).trans ?_
  simp [e3, wipeS, hG, a4]
end T04

end
section
set_option Elab.async false
set_option linter.all false
set_option maxRecDepth 100000
set_option maxHeartbeats 400000
namespace T04
open PySem PySem.Spec PyProof.Rows L2 Fu
open LB (Bx boxO Cell Row Cd draw_spec draw_nat condition_spec alk alks ev ev_le code cel tr zeroE)
theorem second_spec {o : Option AO} {c : Cd} (hl : c.lev ≤ 3) (hf : c.fine) (hb : Bx o) : ∃ (d : Cd) (o' : Option AO), F_second [.ref 0, c.pv] [o] = .ok d.pv [o'] ∧ Bx o' ∧ d.lev ≤ 5 ∧ d.fine := by
  have main : ∃ v S', F_second [.ref 0, c.pv] [o] = .ok v S' ∧ ∃ (d : Cd) (o' : Option AO), v = d.pv ∧ S' = [o'] ∧ Bx o' ∧ d.lev ≤ 5 ∧ d.fine := by
    unfold F_second
    refine fn_of ?_
    unfold b_second
    obtain ⟨k, o1, e1, b1, hk⟩ := draw_nat (T := []) (n := 8) hb (by omega) (by omega)
    rw [← q_draw] at e1
    have e1 : F_draw [.ref 0, .int 8] [o] = .ok (.int k) [o1] := e1
    refine seq_e1 [.val (.ref 0), .val c.pv, .val (.int k), .no] [o1] (by simp [e1]) ?_
    obtain ⟨d, o2, e2, b2, df, dl, _⟩ := condition_spec (T := []) 3 2 1 (by omega) (by omega) (by omega) b1
    rw [← q_cond 3] at e2
    have e2 : F_condition 3 [.ref 0, .int 2, .int 1] [o1] = .ok d.pv [o2] := e2
    refine seq_e1 [.val (.ref 0), .val c.pv, .val (.int k), .val d.pv] [o2] (by simp [e2]) ?_
    have pv : ∀ {x : Cd}, x.lev ≤ 5 → x.fine → ∃ (d : Cd) (o' : Option AO), x.pv = d.pv ∧ [o2] = [o'] ∧ Bx o' ∧ d.lev ≤ 5 ∧ d.fine := fun {x} h1 h2 => ⟨x, o2, rfl, rfl, b2, h1, h2⟩
    have h8 : k = 0 ∨ k = 1 ∨ k = 2 ∨ k = 3 ∨ k = 4 ∨ k = 5 ∨ k = 6 ∨ k = 7 := by omega
    rcases h8 with rfl | rfl | rfl | rfl | rfl | rfl | rfl | rfl
    · exact ⟨d.pv, [o2], by simp, pv (by omega) df⟩
    · exact ⟨(Cd.neg (.neg c)).pv, [o2], by simp [Cd.pv], pv (by unfold Cd.lev Cd.lev; omega) hf⟩
    · exact ⟨(Cd.and c d).pv, [o2], by simp [Cd.pv], pv (by unfold Cd.lev; omega) ⟨hf, df⟩⟩
    · exact ⟨(Cd.or c d).pv, [o2], by simp [Cd.pv], pv (by unfold Cd.lev; omega) ⟨hf, df⟩⟩
    · exact ⟨(Cd.and d c).pv, [o2], by simp [Cd.pv], pv (by unfold Cd.lev; omega) ⟨df, hf⟩⟩
    · exact ⟨(Cd.or d c).pv, [o2], by simp [Cd.pv], pv (by unfold Cd.lev; omega) ⟨df, hf⟩⟩
    · exact ⟨(Cd.neg c).pv, [o2], by simp [Cd.pv], pv (by unfold Cd.lev; omega) hf⟩
    · exact ⟨(Cd.and c c).pv, [o2], by simp [Cd.pv], pv (by unfold Cd.lev; omega) ⟨hf, hf⟩⟩
  obtain ⟨v, S', e, d, o', rfl, rfl, h⟩ := main
  exact ⟨d, o', e, h⟩
theorem box_spec' {p : PV} {ns : List Int} (h : items p [] = some (ns.map .int)) : F_box [p] [] = .ok (.ref 0) [boxO ns 0 0 0 0] := by
  unfold F_box fnOf b_box
  simp [h, boxO]
theorem esc_alk (c o : Cd) : alk 3 (escR F_all_rows c o) (escR F_all_rows c o) = true := by
  have hR := all_rows_rw
  unfold escR
  generalize F_all_rows = R at hR ⊢
  cases hh : R.find? (hq c o) with
  | none => rfl
  | some q => exact alk_row (k := 1) (hR q (List.mem_of_find?_eq_some hh))
theorem law_pure {p : PV} {ns : List Int} (h : items p [] = some (ns.map .int)) : ∃ S', F_law [p] [] = .ok (.bl true) S' := by
  have b0 : Bx (boxO ns 0 0 0 0) := ⟨ns, 0, 0, 0, 0, rfl, Int.le_refl 0⟩
  have main : ∃ v S', F_law [p] [] = .ok v S' ∧ v = .bl true := by
    unfold F_law
    refine fn_of ?_
    unfold b_law
    refine seq_e1 [.val p, .val (.ref 0), .no, .no, .no, .no, .no, .no] [boxO ns 0 0 0 0] (by simp [box_spec' h]) ?_
    generalize boxO ns 0 0 0 0 = o at b0
    obtain ⟨c, o1, e1, b1, cf, cl, _⟩ := condition_spec (T := []) 3 3 1 (by omega) (by omega) (by omega) b0
    rw [← q_cond 3] at e1
    have e1 : F_condition 3 [.ref 0, .int 3, .int 1] [o] = .ok c.pv [o1] := e1
    refine seq_e1 [.val p, .val (.ref 0), .val c.pv, .no, .no, .no, .no, .no] [o1] (by simp [e1]) ?_
    obtain ⟨d, o2, e2, b2, dl, df⟩ := second_spec cl cf b1
    refine seq_e1 [.val p, .val (.ref 0), .val c.pv, .val d.pv, .no, .no, .no, .no] [o2] (by simp [e2]) ?_
    obtain ⟨k, o3, e3, b3, hk⟩ := draw_nat (T := []) (n := 64) b2 (by omega) (by omega)
    rw [← q_draw] at e3
    have e3 : F_draw [.ref 0, .int 64] [o2] = .ok (.int k) [o3] := e3
    refine seq_e1 [.val p, .val (.ref 0), .val c.pv, .val d.pv, .val (.int k), .no, .no, .no] [o3] (by simp [e3]) ?_
    have c5 : c.lev ≤ 5 := by omega
    have g1 := codes_spec c5 cf
    have g2 := codes_spec dl df
    have g3 := live_rows_spec c5 cf [o3]
    have t1 := fun S => tables_told_spec c5 cf hk S
    have t2 := fun S => tables_told_spec dl df (k := 63 - k) (by omega) S
    have s1 := fun S => escape_spec c5 cf dl df S
    have s2 := fun S => escape_spec dl df c5 cf S
    have s3 := fun S => escape_spec c5 cf c5 cf S
    have l1 := fun S => Lescape_spec (c := c) (o := d) S
    have l2 := fun S => Lescape_spec (c := d) (o := c) S
    have l3 := fun S => Lescape_spec (c := c) (o := c) S
    have w1 := fun S => alike_spec c5 cf dl df S
    have w2 := fun S => alike_spec dl df c5 cf S
    have w3 := fun S => eq_tabL (leaf_code c) (leaf_code d) (code_same c d) F_all_rows S
    have sym : sameQ d c = sameQ c d := funext fun q => by
      unfold sameQ
      rw [decide_eq_decide]
      exact ⟨Eq.symm, Eq.symm⟩
    rw [sym] at w2
    have a1 : ∀ S, F_Lalike 3 [escR F_all_rows c d, escR F_all_rows c d] S = .ok (.bl true) S := fun S => alike_data (esc_alk c d)
    have a2 : ∀ S, F_Lalike 3 [escR F_all_rows d c, escR F_all_rows d c] S = .ok (.bl true) S := fun S => alike_data (esc_alk d c)
    have a3 : ∀ S, F_Lalike 3 [escR F_all_rows c c, escR F_all_rows c c] S = .ok (.bl true) S := fun S => alike_data (esc_alk c c)
    have a4 : ∀ (b : Bool) S, F_Lalike 3 [.bl b, .bl b] S = .ok (.bl true) S := fun b S => alike_data (by unfold alk; simp)
    have fl := fl_len all_rows_len (lq c)
    have hk2 : (63 : Int) - k = ((63 - k : Nat) : Int) := by omega
    generalize (F_all_rows.map fun q => PV.int (code (wq c q))) = Z1 at *
    generalize (F_all_rows.map fun q => PV.int (code (wq d q))) = Z2 at *
    generalize F_all_rows.filter (lq c) = L9 at *
    generalize escR F_all_rows c d = E1 at *
    generalize escR F_all_rows d c = E2 at *
    generalize escR F_all_rows c c = E3 at *
    generalize F_all_rows.all (sameQ c d) = B9 at *
    refine seq_e1 [.val p, .val (.ref 0), .val c.pv, .val d.pv, .val (.int k), .val (.lst Z1), .no, .no] [o3] (by simp [g1]) ?_
    refine seq_e1 [.val p, .val (.ref 0), .val c.pv, .val d.pv, .val (.int k), .val (.lst Z1), .val (.lst Z2), .no] [o3] (by simp [g2]) ?_
    refine seq_e1 [.val p, .val (.ref 0), .val c.pv, .val d.pv, .val (.int k), .val (.lst Z1), .val (.lst Z2), .val (.ref 1)] [o3, some (.lst L9)] (by simp [g3]) ?_
    have i1 : isiG [.ref 1, .ty "list"] [o3, some (.lst L9)] = .ok (.bl true) [o3, some (.lst L9)] := rfl
    refine seq_e1 [.val p, .val (.ref 0), .val c.pv, .val d.pv, .val (.int k), .val (.lst Z1), .val (.lst Z2), .val (.ref 1)] [o3, some (.lst L9)] (by simp [i1]) ?_
    refine seq_e1 [.val p, .val (.ref 0), .val c.pv, .val d.pv, .val (.int k), .val (.lst Z1), .val (.lst Z2), .val (.ref 1)] [o3, some (.lst (L9 ++ [.tup [.int 0, .int 0, .int 0]]))] (by
      have : L9.length < 1000000 := by omega
      simp [isLst, appG, this]) ?_
    generalize ([o3, some (.lst (L9 ++ [.tup [.int 0, .int 0, .int 0]]))] : AS) = S
    refine seq_e1 [.val p, .val (.ref 0), .val c.pv, .val d.pv, .val (.int k), .val (.lst Z1), .val (.lst Z2), .val (.ref 1)] S (by simp [t1, hk2, t2]) ?_
    refine seq_e1 [.val p, .val (.ref 0), .val c.pv, .val d.pv, .val (.int k), .val (.lst Z1), .val (.lst Z2), .val (.ref 1)] S (by simp [s1, l1, a1]) ?_
    refine seq_e1 [.val p, .val (.ref 0), .val c.pv, .val d.pv, .val (.int k), .val (.lst Z1), .val (.lst Z2), .val (.ref 1)] S (by simp [s2, l2, a2]) ?_
    refine seq_e1 [.val p, .val (.ref 0), .val c.pv, .val d.pv, .val (.int k), .val (.lst Z1), .val (.lst Z2), .val (.ref 1)] S (by simp [s3, l3, a3]) ?_
    exact rt_e1 (.bl true) S (by simp [w1, w2, w3, a4]) rfl
  obtain ⟨v, S', e, rfl⟩ := main
  exact ⟨S', e⟩
end T04

end
section
set_option Elab.async false
set_option linter.all false
set_option maxRecDepth 100000
set_option maxHeartbeats 4000000
namespace T04
open PySem PySem.Spec PyProof.Rows L2 Fu
open He (ga)
abbrev LEVEL : Nat := 17
def sp_law (K : PySem.W.Frag) : Sp := fun vs H Q _ => ∃ (a : Addr) (ns : List Int), vs = [.ref a] ∧ SqL K H a (ns.map V.int) ∧ ns.length ≤ 63 ∧ ∀ H', Q (.bl true) H'
theorem run_law {P : Program} {w : World} {K : PySem.W.Frag} {mg : Str → Option Value} {base : Heap} (T : Txt K mg) {fd : FuncData} (F : FunD K "law" "law" (defArgs s_law) (defBody s_law) (defScope s_law) [] [] (ga K "law") fd) : FnOk P w K mg base CX0 LEVEL (ga K "law") fd ["_law_script"] (sp_law K) :=
  law_of (ok_law T F) fun ns p _ e => law_pure e
theorem facts {P : Program} {w : World} {K : PySem.W.Frag} {h : Heap} {mg : Str → Option Value} {f : Addr} (X : K.In h) (G : h.Ns mainGlobals mg) (hfa : mg ("law" : Str) = some (.ref f)) (c : Hk.SaysE ex fn K) :
    ∃ fd : FuncData, (∀ (s : Shared) (v : Value), BindsTo s fd ⟨[v], []⟩ [("_law_script", v)]) ∧ ∀ base : Heap, K.In base → base.Ns mainGlobals mg → FnOk P w K mg base CX0 LEVEL f fd ["_law_script"] (sp_law K) := by
  have T : Txt K mg := ⟨c, Hk.nsAll_of X G⟩
  have e := hfa.symm.trans T.g_law
  cases e
  obtain ⟨fd, F⟩ := T.f_law
  exact ⟨fd, fun s v => FunD.bindsA (ps := ["_law_script"]) F (fun _ _ _ _ _ _ us hl => match us, hl with | [_], _ => rfl) s [v] rfl, fun base _ _ => run_law T F⟩
end T04
open PySem PySem.W PySem.Calls PyProof.Rows
set_option maxHeartbeats 0 in
theorem PySem.Challenge.cw_bookstogether_k04_whole_closed_tables_holds : PySem.Challenge.rw_bookstogether_k04_whole_closed_tables.Holds := by
  w_on; o_law
  refine HandSHeadRun.head_any (r := OpenLaw.row PySem.Challenge.rw_bookstogether_k04_whole_closed_tables) (q := view (OpenLaw.row PySem.Challenge.rw_bookstogether_k04_whole_closed_tables).prog [34]) (H := T04.hk) (ob := T04.ob) (M := 9000) (loose := T04.loose) (d := HandSHeadRun.topDef (OpenLaw.row PySem.Challenge.rw_bookstogether_k04_whole_closed_tables).prog 34) (kwd := []) T04.ob_eq
    (by kernel_rfl) (fun s => by kernel_rfl) T04.run (by kernel_rfl) (by kernel_rfl) (by kernel_rfl) (by rfl) (by first | assumption | decide +kernel) (by decide +kernel) ⟨rfl, rfl, rfl, rfl, rfl, by decide +kernel⟩ ?hw ?hc
  case hw => w_witness2
  case hc =>
    refine L2.walk_ofE (l := PySem.Challenge.rw_bookstogether_k04_whole_closed_tables) (n := 63) (k := 17) (x := "_law_script") (CX := L2.CX0) rfl (by decide) (by kernel_rfl) ⟨rfl, by decide, by decide⟩ ?F (fun _ _ _ _ z => z)
    intro w mg fa h Y G hmg0
    obtain ⟨K, KX, c⟩ := Y
    have hmg : mg ("law" : PySem.Str) = some (.ref fa) := by
      have e : (HandSHeadRun.topDef (OpenLaw.row PySem.Challenge.rw_bookstogether_k04_whole_closed_tables).prog 34).name = ("law" : PySem.Str) := by kernel_rfl
      rw [← e]
      exact hmg0
    obtain ⟨fd, hb, hF⟩ := T04.facts (P := (PySem.Challenge.rw_bookstogether_k04_whole_closed_tables).prog) (w := w) KX G hmg c
    exact ⟨K, fd, T04.sp_law K, KX, hb, fun H a ns hl _ hS => ⟨a, ns, rfl, hS, hl, fun _ => rfl⟩, hF⟩

end
