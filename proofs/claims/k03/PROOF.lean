import PyProof.Rows.All
import Wide.All
import OpenK.AllK
import Wide.FinOn
import HandS.ForExc
import HandS.Property
import KE.KStateDown
import HandS.Defaults
import HandS.ClsMeth
import HandS.Head0
import HandS.Head1
import HandS.Head2
import HandS.HeadEnd
import HandS.HeadHook1
import HandS.HeadHook2
import HandS.HeadNt
import HandS.IsInst
import HandS.ExcIs
import HandS.ExcInit
import HandS.ExcField
import HandS.ExcOwn
import KE.KExcIs
import HandS.ExcInitHot
import HandS.TupAny
import HandS.ForMost
import HandS.Strs
import HandS.Style
import HandS.WideBits
import HandS.Comp
import PySem.Challenge.RW_bookstogether_k03_truth_of_conditions
section
set_option Elab.async false
set_option linter.all false
set_option maxRecDepth 100000
set_option maxHeartbeats 4000000
/-! Own operators, truth, static methods of plain own classes. -/
namespace OwnX
open PySem PySem.Spec PyProof.Rows L2

section
variable {X : Cx} {CX : CXT} {pins : List (Addr × Obj)} {σ : L2.St} {H : Hp} {s : Shared} {a C dx f p : Addr} {k : Nat} {fd : FuncData} {ps : List Str} {sp : Sp} {E : XK} {m : Str} {mc : Value}

/-- a def is called below the running body -/
theorem run_call {Q : VK} {A : Around} {us : List Value} {vs : List V} (F : FnOk X.prog X.w X.K X.mg X.base CX k f fd ps sp) (hr : Room k A) (e0 : Env0 X.prog X.w X.K X.mg X.base A X.stack s H) (hb : Binds X.K fd ps []) (hx : Passes CX X E)
    (I : Inv X pins σ H s) (r : Vals vs us) (h : sp vs H Q E) : wpAny (model X.prog X.w) A (call (.ref f) us) (EP X pins σ Q) X.xe s := by
  have hl : us.length = ps.length := by rw [← F.len _ _ _ _ h, r.length]
  refine wpAny_call (codeAny_mono (F.run A X.stack s H ⟨us, []⟩ us vs Q E hr e0 (by
    have := hb s us I.kIn (by simpa using hl)
    simpa using this) r h) fun r s' hq => ?_)
  cases r with
  | error e => exact hx pins σ H s e s' I hq
  | ok fl =>
    cases fl with
    | ret w => exact I.after hq
    | next => exact False.elim hq
    | brk => exact False.elim hq
    | cont => exact False.elim hq
theorem cmpback {P : Value → Shared → Prop} {z : V} {v : Value} {s' : Shared} (r : RelV z v) (h : P v s') : PySem.W.CmpBack P v s' := by
  cases z with
  | non => cases (show v = Value.none from r); exact h
  | bl b => cases (show v = Value.bool b from r); exact h
  | int i =>
    obtain ⟨t, e⟩ := (show ∃ t, v = Value.int i t from r)
    cases e
    exact h
  | str x =>
    obtain ⟨t, e⟩ := (show ∃ t, v = Value.str x t from r)
    cases e
    exact h
  | byt b =>
    obtain ⟨t, e⟩ := (show ∃ t, v = Value.bytes b t from r)
    cases e
    exact h
  | flt b =>
    obtain ⟨t, e⟩ := (show ∃ t, v = Value.float b t from r)
    cases e
    exact h
  | ref a => cases (show v = Value.ref a from r); exact h
  | ty n => cases (show v = Value.type n from r); exact h
/-- x op y, both instances of the class at C -/
def rOwn (C : Addr) (sp : Sp) (E : XK) : R2 := fun x y H Q => ∃ a dx fs b dy gs, x = .ref a ∧ y = .ref b ∧ H a = some (.ins C dx fs) ∧ H b = some (.ins C dy gs) ∧ sp [x, y] H Q E
theorem op_bin {op : Operator} (hc : PySem.W.selfFirst X.K C = true) (M : Meth X.K C (PySem.dunder op.info.2) f) (F : FnOk X.prog X.w X.K X.mg X.base CX k f fd ps sp) (hr : Room k X.A) (hb : Binds X.K fd ps []) (hx : Passes CX X E) :
    OpR X (binaryOp op) (rOwn C sp E) := by
  intro pins s σ H x y v u Q I rx ry h
  obtain ⟨a, dx, fs, b, dy, gs, rfl, rfl, ha, hb', q⟩ := h
  cases (show v = Value.ref a from rx)
  cases (show u = Value.ref b from ry)
  obtain ⟨mA, J, _⟩ := ins_get I.hok ha
  obtain ⟨mB, J', _⟩ := ins_get I.hok hb'
  obtain ⟨od, J, _⟩ := J.look
  obtain ⟨od', J', _⟩ := J'.look
  obtain ⟨m, hF⟩ := I.fr
  refine PySem.W.binop_K (op := op) hF I.ok.mod.kin J J'.type hc M.at_ M.fn ?_
  refine wpAny_mono (run_call (us := [.ref a, .ref b]) (vs := [.ref a, .ref b]) F hr I.env0 hb hx I (.cons rfl (.cons rfl .nil)) q) (fun w s' z => ?_) fun _ _ x => x
  obtain ⟨z', H', I', rz, qz⟩ := z
  exact cmpback rz ⟨z', H', I', rz, qz⟩
theorem op_cmp {op : CmpOp} (hop : ∀ a b, compareOp op a b = richCompare op a b) (M : Meth X.K C (cmpInfo op).2.1 f) (F : FnOk X.prog X.w X.K X.mg X.base CX k f fd ps sp) (hr : Room k X.A) (hb : Binds X.K fd ps []) (hx : Passes CX X E) :
    OpR X (compareOp op) (rOwn C sp E) := by
  intro pins s σ H x y v u Q I rx ry h
  obtain ⟨a, dx, fs, b, dy, gs, rfl, rfl, ha, hb', q⟩ := h
  cases (show v = Value.ref a from rx)
  cases (show u = Value.ref b from ry)
  obtain ⟨mA, J, _⟩ := ins_get I.hok ha
  obtain ⟨mB, J', _⟩ := ins_get I.hok hb'
  obtain ⟨od, J, _⟩ := J.look
  obtain ⟨od', J', _⟩ := J'.look
  obtain ⟨m, hF⟩ := I.fr
  rw [hop]
  refine PySem.W.cmp_K (op := op) (tb := .ref C) hr.units0 hF I.ok.mod.kin J J'.type (by simp [PySem.W.notFirst]) M.at_ M.fn ?_
  refine wpAny_mono (run_call (us := [.ref a, .ref b]) (vs := [.ref a, .ref b]) F hr I.env0 hb hx I (.cons rfl (.cons rfl .nil)) q) (fun w s' z => ?_) fun _ _ x => x
  obtain ⟨z', H', I', rz, qz⟩ := z
  exact cmpback rz ⟨z', H', I', rz, qz⟩
/-- ~x -/
def rOwn1 (C : Addr) (sp : Sp) (E : XK) : V → Hp → VK → Prop := fun x H Q => ∃ a dx fs, x = .ref a ∧ H a = some (.ins C dx fs) ∧ sp [x] H Q E
theorem un_inv (M : Meth X.K C "__invert__" f) (F : FnOk X.prog X.w X.K X.mg X.base CX k f fd ps sp) (hr : Room k X.A) (hb : Binds X.K fd ps []) (hx : Passes CX X E) : UnR X (unaryOp .Invert) (rOwn1 C sp E) := by
  intro pins s σ H x v Q I rx h
  obtain ⟨a, dx, fs, rfl, ha, q⟩ := h
  cases (show v = Value.ref a from rx)
  obtain ⟨mA, J, _⟩ := ins_get I.hok ha
  obtain ⟨od, J, _⟩ := J.look
  obtain ⟨m, hF⟩ := I.fr
  exact PySem.W.ksp_inv hF I.ok.mod.kin J M.at_ M.fn (run_call (us := [.ref a]) (vs := [.ref a]) F hr I.env0 hb hx I (.cons rfl .nil) q)
/-- the truth of x by its own __bool__ -/
def rTruth (C : Addr) (sp : Sp) (E : XK) : V → Hp → (Bool → Hp → Prop) → Prop := fun x H Q => ∃ a dx fs, x = .ref a ∧ H a = some (.ins C dx fs) ∧ sp [x] H (fun v H' => ∃ b, v = .bl b ∧ Q b H') E
theorem truth_at {A : Around} {Q : Bool → Hp → Prop} {E' : Value → Shared → Prop} (I : Inv X pins σ H s) (e : H a = some (.ins C dx fs)) (M : Meth X.K C "__bool__" f)
    (h : wpAny (model X.prog X.w) A (call (.ref f) [.ref a]) (EP X pins σ fun v H' => ∃ b, v = .bl b ∧ Q b H') E' s) : wpAny (model X.prog X.w) A (truthy (.ref a)) (TP X pins σ Q) E' s := by
  obtain ⟨mA, J, _⟩ := ins_get I.hok e
  obtain ⟨od, J, _⟩ := J.look
  obtain ⟨m, hF⟩ := I.fr
  refine PySem.W.truthy_K hF I.ok.mod.kin J M.at_ M.fn (wpAny_mono h (fun r s' hr => ?_) fun _ _ y => y)
  obtain ⟨v, H', I', rv, b, ev, q⟩ := hr
  subst ev
  cases (show r = Value.bool b from rv)
  exact ⟨H', I', q⟩
theorem tru_own (M : Meth X.K C "__bool__" f) (F : FnOk X.prog X.w X.K X.mg X.base CX k f fd ps sp) (hr : Room k X.A) (hb : Binds X.K fd ps []) (hx : Passes CX X E) : TruR X (rTruth C sp E) := by
  intro pins s σ H x v Q I rx h
  obtain ⟨a, dx, fs, rfl, ha, q⟩ := h
  cases (show v = Value.ref a from rx)
  exact truth_at I ha M (run_call (us := [.ref a]) (vs := [.ref a]) F hr I.env0 hb hx I (.cons rfl .nil) q)
/-- a test that is an own instance's truth -/
theorem pt_own {e : Expr} {ta : TE} (ha : PE X e ta) (M : Meth X.K C "__bool__" f) (F : FnOk X.prog X.w X.K X.mg X.base CX k f fd ps sp) (hr : Room k X.A) (hb : Binds X.K fd ps []) (hx : Passes CX X E)
    (he : ∀ whole, isTrue e X.env whole = (do let v ← whole; standAt e.pos; holding [v] (truthy v)) := by intro _; rfl) :
    PT X e (fun σ H Q => ta σ H fun x H' => rTruth C sp E x H' Q) := by
  refine ⟨fun pins s σ H Q I h => ?_⟩
  exact isTrue_plain (thn (ha.run pins s σ H _ I h) fun v s1 ⟨x, H1, I1, r1, q1⟩ => tru_own M F hr hb hx pins s1 σ H1 x v Q I1 r1 q1) (he _)
/-- bool(x) -/
theorem bool_own {A : Around} {x : Addr} {Q : Value → Shared → Prop} {E' : Value → Shared → Prop} {prog : Program} {w : World} {s : Shared}
    (h : wpAny (model prog w) A.in1.in1 (truthy (.ref x)) (fun b s₁ => Q (.bool b) s₁) E' s) : wpAny (model prog w) A (call (.type "bool") [.ref x]) Q E' s := by
  refine callType_codes (T := "bool") (Bi := Builtin.«object.__init__») (Q₁ := fun r s₁ => ∃ b, r = Value.bool b ∧ Q r s₁) PySem.F.called_bool (PySem.F.typeCall_bool_1 _) PySem.F.entry_object_init ?_ ?_
  · refine codeAny_of_tree ?_
    show wpAny _ A.in1.in1 (do checkBuiltinCall "bool.__new__" ⟨[.type "bool", .ref x], []⟩; again (.builtin "bool.__new__" ⟨[.type "bool", .ref x], []⟩)) _ _ s
    refine wpAny_bind (wpAny_of_eq (PySem.F.newCall_bool_1 _) (wpAny_pure ⟨plainId_quiet (by decide +kernel) _, codeAny_builtin PySem.F.entry_bool_new ?_⟩))
    rw [Around.under_plainId (by decide +kernel) _]
    unfold Builtin.«bool.__new__»
    refine wpAny_bind (wpAny_of_eq (a := true) (by kernel_rfl) ?_)
    refine PySem.W.KFB.if_not rfl ?_
    refine wpAny_bind (wpAny_of_eq (a := true) PySem.F.conv_sub_bool ?_)
    refine PySem.W.KFB.if_not rfl ?_
    refine wpAny_bind (wpAny_of_eq (a := [Value.ref x]) (by kernel_rfl) ?_)
    exact wpAny_bind (wpAny_mono h (fun b s₁ hb => wpAny_pure ⟨b, rfl, hb⟩) fun _ _ y => y)
  · rintro obj s₁ ⟨b, rfl, hq⟩
    exact ⟨rfl, PySem.F.args_object_init_2 _ _, object_init_meets PySem.F.called_bool.init.lookup PySem.F.called_bool.made (by decide) prog w A.in1 _ s₁ ⟨rfl, rfl, hq⟩⟩
end
end OwnX

end
section
set_option Elab.async false
set_option linter.all false
set_option maxRecDepth 100000
set_option maxHeartbeats 4000000
/-! The head's facts by a Hook of one Bool, defs at any address; calls of such defs. -/
namespace Hk
open PySem PySem.Spec PyProof.Rows L2
open He (ga ma ba eqO eqO_ok frG frG_in)
open He5 (DefA fnA asA wf)

def obsE (ex : PySem.W.Frag → Bool) (fn : List DefA) (K : PySem.W.Frag) : He.AlD := (ex K && fn.all fun d => d.ok K, fn.map fun d => fnA K (d.at_ K))
def valE (fn : List DefA) : He.AlD := (true, fn.map DefA.val)
def SaysE (ex : PySem.W.Frag → Bool) (fn : List DefA) (K : PySem.W.Frag) : Prop := obsE ex fn K = valE fn
def obsEG (n : Nat) (ex : PySem.W.Frag → Bool) (fn : List DefA) (g : Addr → Option Obj) : He.AlD := obsE ex fn (frG g (asA g n))
def hookE (n : Nat) (ex : PySem.W.Frag → Bool) (fn : List DefA) : PySem.W.Hook where
  α := He.AlD
  obs := fun s => obsEG n ex fn s.heap.get?
  val := fun _ => valE fn
  says := fun _ h => ∃ K : PySem.W.Frag, K.In h ∧ SaysE ex fn K
  of := fun _ _ e => ⟨_, frG_in, e⟩
  keeps := fun _ _ _ ⟨K, hK, c⟩ k => ⟨K, PySem.W.Frag.In.keeps hK k, c⟩
theorem obsEG_eq {n : Nat} {ex : PySem.W.Frag → Bool} {fn : List DefA} {g : Addr → Option Obj} {s : Shared} (h : ∀ a, g a = s.heap.get? a) : obsEG n ex fn g = (hookE n ex fn).obs s := by
  have e : g = s.heap.get? := funext h
  rw [e] <;> rfl
section
variable {ex : PySem.W.Frag → Bool} {fn : List DefA} {K : PySem.W.Frag}
theorem SaysE.more (c : SaysE ex fn K) : ex K = true :=
  (ba (show (ex K && fn.all fun d => d.ok K) = true from congrArg (fun z : He.AlD => z.1) c)).1
theorem SaysE.def_ (c : SaysE ex fn K) (i : Nat) {d : DefA} (h : fn[i]? = some d := by rfl) : ∃ fd, FunD K d.name d.qual d.params d.body d.scope (d.dvs K) (d.kws K) (d.at_ K) fd := by
  have c2 := (ba (show (ex K && fn.all fun d => d.ok K) = true from congrArg (fun z : He.AlD => z.1) c)).2
  have e : fn.map (fun d => fnA K (d.at_ K)) = fn.map DefA.val := congrArg (fun z : He.AlD => z.2) c
  have e2 : (fn.map fun d => fnA K (d.at_ K))[i]? = (fn.map DefA.val)[i]? := by rw [e]
  rw [List.getElem?_map, List.getElem?_map, h] at e2
  exact DefA.funD (Option.some.inj e2) (List.all_eq_true.mp c2 d (List.mem_of_getElem? h))
end

/-! ### facts as Bools -/
/-- the getter's address of the property f of the class x -/
def pg (K : PySem.W.Frag) (x f : Str) : Addr := wf K (ga K x) "property" f
/-- the static method's def -/
def sg (K : PySem.W.Frag) (x f : Str) : Addr := wf K (ga K x) "staticmethod" f
def cg (K : PySem.W.Frag) (x f : Str) : Addr := wf K (ga K x) "classmethod" f
def mt (K : PySem.W.Frag) (x f : Str) : Addr := ma K (ga K x) f
/-- the module's name is this value -/
def nsB (K : PySem.W.Frag) (x : Str) (r : Option Value) : Bool := eqO (PySem.W.nsIn K mainGlobals x) (some r)
def selfB (K : PySem.W.Frag) (x : Str) : Bool := PySem.W.selfFirst K (ga K x)
def propB (K : PySem.W.Frag) (x f : Str) : Bool := eqO (PySem.W.findIn K (.ref (ga K x)) f) (some (some (.ref (mt K x f)))) && (eqO (PySem.W.specialIn K (.ref (mt K x f)) "__get__") (some (some (.builtin "property.__get__"))) &&
  (decide (PySem.W.takesIn K (.ref (mt K x f)) = some true) && (match PySem.W.recIn K (mt K x f) "property" with
    | some (.ref _ :: _) => true
    | _ => false)))
theorem prop_ok {K : PySem.W.Frag} {x f : Str} (h : propB K x f = true) : PropOf K (ga K x) f (mt K x f) (pg K x f) := by
  obtain ⟨h1, h⟩ := ba h
  obtain ⟨h2, h⟩ := ba h
  obtain ⟨h3, h4⟩ := ba h
  refine ⟨eqO_ok h1, eqO_ok h2, of_decide_eq_true h3, ?_⟩
  unfold pg wf
  show ∃ rest, PySem.W.recIn K (mt K x f) "property" = some (.ref (match PySem.W.recIn K (mt K x f) "property" with | some (.ref f :: _) => f | _ => 0) :: rest)
  split at h4
  · rename_i g r e
    exact ⟨r, by rw [e]⟩
  · cases h4
def statB (K : PySem.W.Frag) (x f : Str) : Bool := He5.wrapB K (ga K x) "staticmethod" "staticmethod.__get__" f && (PySem.W.keepIn K (.ref (sg K x f)))
def readB (K : PySem.W.Frag) (x : Str) : Bool := PySem.W.readsIn K (ga K x) (.type "type") && eqO (PySem.W.specialIn K (.ref (ga K x)) "__getattribute__") (some (some (.builtin "type.__getattribute__")))
theorem read_ok {K : PySem.W.Frag} {x : Str} (h : readB K x = true) : ClX.CRead K (ga K x) (.type "type") := by
  obtain ⟨h1, h2⟩ := ba h
  exact ⟨h1, eqO_ok h2⟩
/-- the class's value v -/
def cvalB (K : PySem.W.Frag) (x f : Str) (v : V) : Bool := match PySem.W.findCls K (.ref (ga K x)) (.type "type") f with
  | some (.val u) => He.relB v u
  | _ => false
theorem cval_ok {K : PySem.W.Frag} {x f : Str} {v : V} (h : cvalB K x f v = true) : ∃ u, ClX.CVal K (ga K x) (.type "type") f v u := by
  unfold cvalB at h
  split at h
  · rename_i u e
    exact ⟨u, e, He.relB_ok h⟩
  · cases h
/-- an own error class: bm its bases -/
def excB (K : PySem.W.Frag) (x : Str) (bm : List Value) : Bool := PySem.W.excIn K (ga K x) bm "ValueError.__new__" && (PySem.W.keepIn K (.ref (ga K x)) && (decide (PySem.W.subIn K (.ref (ga K x)) (.type "BaseException") = some true) && decide (PySem.W.typeIn K (.ref (ga K x)) = some (.type "type"))))
structure ExcF (K : PySem.W.Frag) (x : Str) (bm : List Value) : Prop where
  ex : PySem.W.excIn K (ga K x) bm "ValueError.__new__" = true
  kp : PySem.W.keepIn K (.ref (ga K x)) = true
  sb : PySem.W.subIn K (.ref (ga K x)) (.type "BaseException") = some true
  ty : PySem.W.typeIn K (.ref (ga K x)) = some (.type "type")
theorem exc_ok {K : PySem.W.Frag} {x : Str} {bm : List Value} (c : excB K x bm = true) : ExcF K x bm := by
  obtain ⟨c1, c⟩ := ba c
  obtain ⟨c2, c⟩ := ba c
  obtain ⟨c3, c4⟩ := ba c
  exact ⟨c1, c2, of_decide_eq_true c3, of_decide_eq_true c4⟩
/-- the module's names as the table tells them -/
def NsAll (K : PySem.W.Frag) (mg : Str → Option Value) : Prop := ∀ x r, PySem.W.nsIn K mainGlobals x = some r → mg x = r
theorem nsAll_of {K : PySem.W.Frag} {h : Heap} {mg : Str → Option Value} (X : K.In h) (G : h.Ns mainGlobals mg) : NsAll K mg := fun x r e => by
  cases r with
  | none => exact PySem.W.mg_none_of X G e
  | some v => exact PySem.W.mg_of X G e
theorem ns_ok {K : PySem.W.Frag} {mg : Str → Option Value} {x : Str} {r : Option Value} (N : NsAll K mg) (c : nsB K x r = true) : mg x = r := N x r (eqO_ok c)
theorem glo_ok {K : PySem.W.Frag} {mg : Str → Option Value} {x : Str} (N : NsAll K mg) (c : (He.Fa.glo x).ok K = true) : mg x = some (.ref (ga K x)) := N x _ (eqO_ok c)
theorem free_ok {K : PySem.W.Frag} {mg : Str → Option Value} {x : Str} (N : NsAll K mg) (c : (He.Fa.free x).ok K = true) : mg x = none := N x _ (eqO_ok c)

/-! ### defs that keep promises -/
section
variable {P : Program} {w : World} {K : PySem.W.Frag} {mg : Str → Option Value} {base : Heap}
/-- the module's def x keeps the promise -/
structure GOk (P : Program) (w : World) (K : PySem.W.Frag) (mg : Str → Option Value) (base : Heap) (CX : CXT) (k : Nat) (x : Str) (ps : List Str) (sp : Sp) : Prop where
  g : mg x = some (.ref (ga K x))
  ex : ∃ fd, PySem.W.keepIn K (.ref (ga K x)) = true ∧ Binds K fd ps [] ∧ FnOk P w K mg base CX k (ga K x) fd ps sp
theorem GOk.mono {CX : CXT} {j k : Nat} {x : Str} {ps : List Str} {sp : Sp} (G : GOk P w K mg base CX j x ps sp) (h : j ≤ k) : GOk P w K mg base CX k x ps sp :=
  let ⟨fd, a, b, c⟩ := G.ex
  ⟨G.g, fd, a, b, c.mono h⟩
theorem GOk.imp {CX : CXT} {k : Nat} {x : Str} {ps : List Str} {sp sp' : Sp} (G : GOk P w K mg base CX k x ps sp) (h : ∀ vs H Q E, sp' vs H Q E → sp vs H Q E) : GOk P w K mg base CX k x ps sp' :=
  let ⟨fd, a, b, c⟩ := G.ex
  ⟨G.g, fd, a, b, c.imp h⟩
/-- a method, a getter, a static method at an address -/
structure AOk (P : Program) (w : World) (K : PySem.W.Frag) (mg : Str → Option Value) (base : Heap) (CX : CXT) (k : Nat) (a : Addr) (ps : List Str) (sp : Sp) : Prop where
  ex : ∃ fd, Binds K fd ps [] ∧ FnOk P w K mg base CX k a fd ps sp
theorem AOk.mono {CX : CXT} {j k : Nat} {a : Addr} {ps : List Str} {sp : Sp} (G : AOk P w K mg base CX j a ps sp) (h : j ≤ k) : AOk P w K mg base CX k a ps sp :=
  let ⟨fd, b, c⟩ := G.ex
  ⟨fd, b, c.mono h⟩
end
section
variable {X : Cx} {CX : CXT} {k : Nat} {x : Str} {ps : List Str} {sp : Sp} {E : XK} {e : Expr} {es : List Expr} {p pos apos : Pos} {t : TA} {ta : TE} {cls m : Str} {C : Addr} {o : Expr} {a b : Expr} {tb : TE}
/-- f(e, ..) -/
theorem pe_g (G : GOk X.prog X.w X.K X.mg X.base CX k x ps sp) (hr : Room k X.A) (hx : Passes CX X E) (ha : PA X (e :: es) t) (hg : Gl X x := by rfl)
    (hdb : (x == ("__debug__" : Str)) = false := by decide) (he : starEach (e :: es) X.env = (false, eval e X.env) :: starEach es X.env := by rfl) (hpl : (backTo pos (starEach es X.env)).any (·.1) = false := by rfl) :
    PE X (.Call (.Name x p) (e :: es) [] pos) (tCall sp [] E t) := by
  obtain ⟨fd, h1, h2, h3⟩ := G.ex
  exact pe_call h3 hr hg G.g h1 h2 .nil hx ha hdb he hpl
theorem pe_g0 (G : GOk X.prog X.w X.K X.mg X.base CX k x ps sp) (hr : Room k X.A) (hx : Passes CX X E) (hg : Gl X x := by rfl) (hdb : (x == ("__debug__" : Str)) = false := by decide) : PE X (.Call (.Name x p) [] [] pos) (tCall sp [] E tNil) := by
  obtain ⟨fd, h1, h2, h3⟩ := G.ex
  exact pe_call0 h3 hr hg G.g h1 h2 .nil hx hdb
/-- o.m(e, ..) -/
theorem pe_m {pl : Sem Bool} (G : AOk X.prog X.w X.K X.mg X.base CX k (ma X.K C m) ps sp) (c : Cls X.K C) (hm : Meth X.K C m (ma X.K C m)) (hr : Room k X.A) (hx : Passes CX X E) (he : PE X o ta) (ha : PA X (e :: es) t)
    (hst : starEach (e :: es) X.env = (false, eval e X.env) :: starEach es X.env := by rfl) (hpl : (backTo pos (starEach es X.env)).any (·.1) = false := by rfl)
    (ht : eval (.Call (.Attribute o m apos) (e :: es) [] pos) X.env = (do
      let ov ← eval o X.env
      standAt apos.atName
      let (f, first) ← holding [ov] (getMethod ov m pl)
      callWith pos f first (backTo pos (starEach (e :: es) X.env)) (backToKw pos (keywordEach [] X.env))) := by rfl) :
    PE X (.Call (.Attribute o m apos) (e :: es) [] pos) (tMeth C m sp [] E ta t) := by
  obtain ⟨fd, h2, h3⟩ := G.ex
  exact pe_meth he c hm h3 hr h2 .nil hx ha hst hpl ht
/-- o.f, a property -/
theorem pe_p {pr a' : Addr} (G : AOk X.prog X.w X.K X.mg X.base CX k a' ps sp) (c : Cls X.K C) (hp : PropOf X.K C m pr a') (hr : Room (k + 1) X.A) (hx : Passes CX X.nox E) (he : PE X o ta)
    (hab : attributeBase o m X.env (eval o X.env) = eval o X.env := by rfl) : PE X (.Attribute o m pos) (tProp C sp [] E ta) := by
  obtain ⟨fd, h2, h3⟩ := G.ex
  exact pe_prop he c hp h3 hr h2 .nil hx hab
theorem op_bin {op : Operator} (G : AOk X.prog X.w X.K X.mg X.base CX k f ps sp) (hc : PySem.W.selfFirst X.K C = true) (M : Meth X.K C (PySem.dunder op.info.2) f) (hr : Room k X.A) (hx : Passes CX X E) : OpR X (binaryOp op) (OwnX.rOwn C sp E) := by
  obtain ⟨fd, h2, h3⟩ := G.ex
  exact OwnX.op_bin hc M h3 hr h2 hx
theorem op_cmp {op : CmpOp} (G : AOk X.prog X.w X.K X.mg X.base CX k f ps sp) (hop : ∀ a b, compareOp op a b = richCompare op a b) (M : Meth X.K C (cmpInfo op).2.1 f) (hr : Room k X.A) (hx : Passes CX X E) : OpR X (compareOp op) (OwnX.rOwn C sp E) := by
  obtain ⟨fd, h2, h3⟩ := G.ex
  exact OwnX.op_cmp hop M h3 hr h2 hx
theorem un_inv (G : AOk X.prog X.w X.K X.mg X.base CX k f ps sp) (M : Meth X.K C "__invert__" f) (hr : Room k X.A) (hx : Passes CX X E) : UnR X (unaryOp .Invert) (OwnX.rOwn1 C sp E) := by
  obtain ⟨fd, h2, h3⟩ := G.ex
  exact OwnX.un_inv M h3 hr h2 hx
theorem pt_own (G : AOk X.prog X.w X.K X.mg X.base CX k f ps sp) (M : Meth X.K C "__bool__" f) (hr : Room k X.A) (hx : Passes CX X E) (ha : PE X e ta)
    (he : ∀ whole, isTrue e X.env whole = (do let v ← whole; standAt e.pos; holding [v] (truthy v)) := by intro _; rfl) : PT X e (fun σ H Q => ta σ H fun x H' => OwnX.rTruth C sp E x H' Q) := by
  obtain ⟨fd, h2, h3⟩ := G.ex
  exact OwnX.pt_own ha M h3 hr h2 hx he
/-- bool(x), x an own instance -/
theorem call_bool (G : AOk X.prog X.w X.K X.mg X.base CX k f ps sp) (M : Meth X.K C "__bool__" f) (hr : Room (k + 2) X.A) (hx : Passes CX X E) : CallR X (.type "bool") (fun xs H Q => ∃ x, xs = [x] ∧ OwnX.rTruth C sp E x H fun b H' => Q (.bl b) H') := by
  obtain ⟨fd, h2, h3⟩ := G.ex
  intro pins s σ H xs us Q I r h
  obtain ⟨x, rfl, a, dx, fs, rfl, ha, q⟩ := h
  obtain ⟨u, rfl, ru⟩ := r.one
  cases (show u = Value.ref a from ru)
  have hr2 : Room k X.A.in1.in1 := (show Room (k + 1) X.A.in1 from Room.in1 hr).in1
  refine OwnX.bool_own (wpAny_mono (OwnX.truth_at I ha M (OwnX.run_call (us := [.ref a]) (vs := [.ref a]) h3 hr2 I.env0.in1.in1 h2 hx I (.cons rfl .nil) q)) (fun b s' z => ?_) fun _ _ y => y)
  obtain ⟨H', I', q'⟩ := z
  exact ⟨.bl b, H', I', rfl, q'⟩
/-- C(e, ..) -/
theorem pe_mk (M : Mk X.K C f) (G : AOk X.prog X.w X.K X.mg X.base CX k f ps sp) (hm : X.mg x = some (.ref C)) (hr : Room (k + 1) X.A) (hx : Passes CX X E) (ha : PA X (e :: es) t) (hg : Gl X x := by rfl)
    (hdb : (x == ("__debug__" : Str)) = false := by decide) (he : starEach (e :: es) X.env = (false, eval e X.env) :: starEach es X.env := by rfl) (hpl : (backTo pos (starEach es X.env)).any (·.1) = false := by rfl) :
    PE X (.Call (.Name x p) (e :: es) [] pos) (tMake C sp [] E t) := by
  obtain ⟨fd, h2, h3⟩ := G.ex
  exact pe_make M h3 hr hg hm h2 .nil hx ha hdb he hpl
end
/-! ### static methods called off the class -/
/-- e.m(..), e the class at C -/
def tStat (C : Addr) (sp : Sp) (E : XK) (ta : TE) (t : TA) : TE := fun σ H Q => ta σ H fun x H1 => x = .ref C ∧ t σ H1 fun vs H2 => sp vs H2 Q E
section
variable {X : Cx} {CX : CXT} {k : Nat} {x : Str} {ps : List Str} {sp : Sp} {E : XK} {e : Expr} {es : List Expr} {p pos apos : Pos} {t : TA} {ta : TE} {m : Str} {o : Expr}
theorem pe_s {pl : Sem Bool} (G : AOk X.prog X.w X.K X.mg X.base CX k (sg X.K x m) ps sp) (r : readB X.K x = true) (c : statB X.K x m = true) (hr : Room k X.A) (hx : Passes CX X E) (hex : PE X o ta) (ha : PA X (e :: es) t)
    (hst : starEach (e :: es) X.env = (false, eval e X.env) :: starEach es X.env := by rfl) (hpl : (backTo pos (starEach es X.env)).any (·.1) = false := by rfl)
    (ht : eval (.Call (.Attribute o m apos) (e :: es) [] pos) X.env = (do
      let ov ← eval o X.env
      standAt apos.atName
      let (f, first) ← holding [ov] (getMethod ov m pl)
      callWith pos f first (backTo pos (starEach (e :: es) X.env)) (backToKw pos (keywordEach [] X.env))) := by rfl) :
    PE X (.Call (.Attribute o m apos) (e :: es) [] pos) (tStat (ga X.K x) sp E ta t) := by
  obtain ⟨fd, h2, h3⟩ := G.ex
  obtain ⟨c1, c2⟩ := ba c
  obtain ⟨w1, rest, w2⟩ := He5.wrapB_ok c1
  have R := read_ok r
  refine ⟨fun pins s σ H Q I h => ?_⟩
  refine PySem.W.methodCall_KW (pl := pl) (thn (hex.run pins s σ H _ I h) fun u s1 ⟨y, H1, I1, rx, ex, q⟩ => ?_) ht
  subst ex
  obtain rfl : u = Value.ref (ga X.K x) := rx
  refine PySem.W.method_cls I1.kIn R.ga (PySem.W.cls_bind I1.kIn R.rd w1 (wpAny_call (PySem.W.sm_get (s := { s1 with toks := s1.toks + 1 }) I1.kIn w2 (PySem.W.handed_on rfl ?_))))
  have I2 := I1.tok (s1.toks + 1)
  refine PySem.W.callWith_K (h₀ := X.base) I2.ok.mod.kin c2 (thn (ha.run pos pins _ σ H1 _ I2 q) fun us s3 ⟨vs, H2, I3, rv, q2⟩ => ⟨I3.kIn, ?_⟩) hst hpl
  exact OwnX.run_call h3 hr I3.env0 h2 hx I3 rv q2
end
/-! ### a def of the text and its promise -/
section
variable {P : Program} {w : World} {K : PySem.W.Frag} {mg : Str → Option Value} {base : Heap} {nm qual : Str} {st : Stmt} {N ps : List Str} {k : Nat} {CX : CXT} {sp : Sp} {a : Addr}
theorem mkFX (F : ∃ fd, FunD K nm qual (defArgs st) (defBody st) (defScope st) [] [] a fd)
    (hb : ∀ (kV doc pm : Value) (an : Option Addr) (cdv ct : Value) (us : List Value), us.length = ps.length → bindArgs (PySem.W.fnOf nm qual (defArgs st) (defBody st) (defScope st) .none kV doc pm an cdv ct) ⟨us, []⟩ = pure (ps.zip us))
    (S : FnScope N ps (defScope st)) (len : ∀ vs H Q E, sp vs H Q E → vs.length = ps.length)
    (hbody : ∀ (cdv : Value) (A : Around) (outer : List Env) (s : Shared) (H : Hp) (vs : List V) (Q : VK) (E : XK), Room k (A.deeper (envOfC qual (defScope st) s.heap.objs.size a cdv)) → sp vs H Q E →
      ∃ t, PSs (cxOf CX P w K mg base N qual (defScope st) a cdv A outer s H E) (defBody st) t ∧ t { nx := fun _ H' => Q .non H', rt := Q } (start N vs) H) :
    ∃ fd, PySem.W.keepIn K (.ref a) = true ∧ Binds K fd ps [] ∧ FnOk P w K mg base CX (k + 1) a fd ps sp := by
  obtain ⟨fd, F⟩ := F
  exact ⟨fd, F.kp, F.bindsN hb, F.ok S len hbody⟩
theorem mkGX (g : mg nm = some (.ref (ga K nm))) (F : ∃ fd, FunD K nm qual (defArgs st) (defBody st) (defScope st) [] [] (ga K nm) fd)
    (hb : ∀ (kV doc pm : Value) (an : Option Addr) (cdv ct : Value) (us : List Value), us.length = ps.length → bindArgs (PySem.W.fnOf nm qual (defArgs st) (defBody st) (defScope st) .none kV doc pm an cdv ct) ⟨us, []⟩ = pure (ps.zip us))
    (S : FnScope N ps (defScope st)) (len : ∀ vs H Q E, sp vs H Q E → vs.length = ps.length)
    (hbody : ∀ (cdv : Value) (A : Around) (outer : List Env) (s : Shared) (H : Hp) (vs : List V) (Q : VK) (E : XK), Room k (A.deeper (envOfC qual (defScope st) s.heap.objs.size (ga K nm) cdv)) → sp vs H Q E →
      ∃ t, PSs (cxOf CX P w K mg base N qual (defScope st) (ga K nm) cdv A outer s H E) (defBody st) t ∧ t { nx := fun _ H' => Q .non H', rt := Q } (start N vs) H) : GOk P w K mg base CX (k + 1) nm ps sp :=
  ⟨g, mkFX F hb S len hbody⟩
theorem mkAX (F : ∃ fd, FunD K nm qual (defArgs st) (defBody st) (defScope st) [] [] a fd)
    (hb : ∀ (kV doc pm : Value) (an : Option Addr) (cdv ct : Value) (us : List Value), us.length = ps.length → bindArgs (PySem.W.fnOf nm qual (defArgs st) (defBody st) (defScope st) .none kV doc pm an cdv ct) ⟨us, []⟩ = pure (ps.zip us))
    (S : FnScope N ps (defScope st)) (len : ∀ vs H Q E, sp vs H Q E → vs.length = ps.length)
    (hbody : ∀ (cdv : Value) (A : Around) (outer : List Env) (s : Shared) (H : Hp) (vs : List V) (Q : VK) (E : XK), Room k (A.deeper (envOfC qual (defScope st) s.heap.objs.size a cdv)) → sp vs H Q E →
      ∃ t, PSs (cxOf CX P w K mg base N qual (defScope st) a cdv A outer s H E) (defBody st) t ∧ t { nx := fun _ H' => Q .non H', rt := Q } (start N vs) H) : AOk P w K mg base CX (k + 1) a ps sp :=
  let ⟨fd, _, b, c⟩ := mkFX F hb S len hbody
  ⟨fd, b, c⟩
theorem mkF (F : ∃ fd, FunD K nm qual (defArgs st) (defBody st) (defScope st) [] [] a fd)
    (hb : ∀ (kV doc pm : Value) (an : Option Addr) (cdv ct : Value) (us : List Value), us.length = ps.length → bindArgs (PySem.W.fnOf nm qual (defArgs st) (defBody st) (defScope st) .none kV doc pm an cdv ct) ⟨us, []⟩ = pure (ps.zip us))
    (S : FnScope N ps (defScope st)) (len : ∀ vs H Q E, sp vs H Q E → vs.length = ps.length)
    (hbody : ∀ (cdv : Value) (A : Around) (outer : List Env) (s : Shared) (H : Hp) (vs : List V) (Q : VK) (E : XK), Room k (A.deeper (envOfC qual (defScope st) s.heap.objs.size a cdv)) → sp vs H Q E →
      ∃ t, PSs (cxOf CX P w K mg base N qual (defScope st) a cdv A outer s H E).nox (defBody st) t ∧ t { nx := fun _ H' => Q .non H', rt := Q } (start N vs) H) :
    ∃ fd, PySem.W.keepIn K (.ref a) = true ∧ Binds K fd ps [] ∧ FnOk P w K mg base CX (k + 1) a fd ps sp := by
  obtain ⟨fd, F⟩ := F
  exact ⟨fd, F.kp, F.bindsN hb, F.ok S len fun cdv A outer s H vs Q E hr h => let ⟨t, h1, h2⟩ := hbody cdv A outer s H vs Q E hr h; ⟨t, h1.nox, h2⟩⟩
theorem mkG (g : mg nm = some (.ref (ga K nm))) (F : ∃ fd, FunD K nm qual (defArgs st) (defBody st) (defScope st) [] [] (ga K nm) fd)
    (hb : ∀ (kV doc pm : Value) (an : Option Addr) (cdv ct : Value) (us : List Value), us.length = ps.length → bindArgs (PySem.W.fnOf nm qual (defArgs st) (defBody st) (defScope st) .none kV doc pm an cdv ct) ⟨us, []⟩ = pure (ps.zip us))
    (S : FnScope N ps (defScope st)) (len : ∀ vs H Q E, sp vs H Q E → vs.length = ps.length)
    (hbody : ∀ (cdv : Value) (A : Around) (outer : List Env) (s : Shared) (H : Hp) (vs : List V) (Q : VK) (E : XK), Room k (A.deeper (envOfC qual (defScope st) s.heap.objs.size (ga K nm) cdv)) → sp vs H Q E →
      ∃ t, PSs (cxOf CX P w K mg base N qual (defScope st) (ga K nm) cdv A outer s H E).nox (defBody st) t ∧ t { nx := fun _ H' => Q .non H', rt := Q } (start N vs) H) : GOk P w K mg base CX (k + 1) nm ps sp :=
  ⟨g, mkF F hb S len hbody⟩
theorem mkA (F : ∃ fd, FunD K nm qual (defArgs st) (defBody st) (defScope st) [] [] a fd)
    (hb : ∀ (kV doc pm : Value) (an : Option Addr) (cdv ct : Value) (us : List Value), us.length = ps.length → bindArgs (PySem.W.fnOf nm qual (defArgs st) (defBody st) (defScope st) .none kV doc pm an cdv ct) ⟨us, []⟩ = pure (ps.zip us))
    (S : FnScope N ps (defScope st)) (len : ∀ vs H Q E, sp vs H Q E → vs.length = ps.length)
    (hbody : ∀ (cdv : Value) (A : Around) (outer : List Env) (s : Shared) (H : Hp) (vs : List V) (Q : VK) (E : XK), Room k (A.deeper (envOfC qual (defScope st) s.heap.objs.size a cdv)) → sp vs H Q E →
      ∃ t, PSs (cxOf CX P w K mg base N qual (defScope st) a cdv A outer s H E).nox (defBody st) t ∧ t { nx := fun _ H' => Q .non H', rt := Q } (start N vs) H) : AOk P w K mg base CX (k + 1) a ps sp :=
  let ⟨fd, _, b, c⟩ := mkF F hb S len hbody
  ⟨fd, b, c⟩
end
theorem lk_hd {f : Str} {v : V} {l : List (Str × V)} : ((f, v) :: l).lookup f = some v := by simp [List.lookup]
theorem same_upd {H : Hp} {p : Addr} {o : HO} (h : H p = none) : Same H (upd H p o) := fun b x e => by
  rw [upd_ne (ne_of_none e h)]
  exact e
/-- isinstance(x, C), x an instance of an own class -/
theorem call_isiO {X : Cx} : CallR X (.builtin "isinstance") (rIsi X.K) := call_isi
/-! ### isinstance: what the classes must say -/
structure IsiF (K : PySem.W.Frag) (C : Addr) : Prop where
  cl : Cls K C
  ha : PySem.W.findIn K (.ref C) "__class__" = some (some (.builtin "object.__class__"))
  hn : PySem.W.specialIn K (.builtin "object.__class__") "__get__" = some (some (.builtin "getset_descriptor.__get__"))
  ht : PySem.W.takesIn K (.builtin "object.__class__") = some true
  hm : PySem.W.mroIn K C (.type "object") = some true
def isiB (K : PySem.W.Frag) (x : Str) : Bool := (He.Fa.cls x).ok K && (eqO (PySem.W.findIn K (.ref (ga K x)) "__class__") (some (some (.builtin "object.__class__"))) && (eqO (PySem.W.specialIn K (.builtin "object.__class__") "__get__") (some (some (.builtin "getset_descriptor.__get__"))) &&
  (decide (PySem.W.takesIn K (.builtin "object.__class__") = some true) && decide (PySem.W.mroIn K (ga K x) (.type "object") = some true))))
theorem isi_ok {K : PySem.W.Frag} {x : Str} (h : isiB K x = true) : IsiF K (ga K x) := by
  obtain ⟨h1, h⟩ := ba h
  obtain ⟨h2, h⟩ := ba h
  obtain ⟨h3, h⟩ := ba h
  obtain ⟨h4, h5⟩ := ba h
  exact ⟨He.cls_ok h1, eqO_ok h2, eqO_ok h3, of_decide_eq_true h4, of_decide_eq_true h5⟩
theorem IsiF.ty {K : PySem.W.Frag} {C a dx : Addr} {fs : List (Str × V)} {H : Hp} (F : IsiF K C) (e : H a = some (.ins C dx fs)) : TyX K H (.ref a) (.ref C) := .base (.ins e F.cl F.ha F.hn F.ht F.hm)
def excCB (K : PySem.W.Frag) (x : Str) : Bool := eqO (PySem.W.findIn K (.ref (ga K x)) "__getattribute__") (some (some (.builtin "BaseException.__getattribute__"))) && (eqO (PySem.W.findIn K (.ref (ga K x)) "__getattr__") (some none) &&
  (decide (PySem.W.subIn K (.ref (ga K x)) (.type "BaseException") = some true) && (PySem.W.hasDictIn K (ga K x) && (eqO (PySem.W.findIn K (.ref (ga K x)) "__class__") (some (some (.builtin "object.__class__"))) && (eqO (PySem.W.specialIn K (.builtin "object.__class__") "__get__") (some (some (.builtin "getset_descriptor.__get__"))) &&
  (decide (PySem.W.takesIn K (.builtin "object.__class__") = some true) && decide (PySem.W.mroIn K (ga K x) (.type "object") = some true)))))))
theorem excC_ok {K : PySem.W.Frag} {x : Str} (h : excCB K x = true) : ExcC K (ga K x) := by
  obtain ⟨h1, h⟩ := ba h
  obtain ⟨h2, h⟩ := ba h
  obtain ⟨h3, h⟩ := ba h
  obtain ⟨h4, h⟩ := ba h
  obtain ⟨h5, h⟩ := ba h
  obtain ⟨h6, h⟩ := ba h
  obtain ⟨h7, h8⟩ := ba h
  exact ⟨eqO_ok h1, eqO_ok h2, of_decide_eq_true h3, h4, eqO_ok h5, eqO_ok h6, of_decide_eq_true h7, of_decide_eq_true h8⟩
def kitB (K : PySem.W.Frag) (x y : Str) (b : Bool) : Bool := decide (PySem.W.kitOne K (.ref (ga K x)) (.ref (ga K y)) = some b)
/-! ### is True, is False -/
def rIsBo : R2 := fun x y H Q => ∃ b : Bool, y = .bl b ∧ Q (.bl (decide (x = .bl b))) H
section
variable {X : Cx}
theorem op_isB : OpR X (compareOp .Is) rIsBo := by
  intro pins s σ H x y v u Q I rx ry h
  obtain ⟨b, rfl, q⟩ := h
  cases (show u = Value.bool b from ry)
  by_cases e : x = .bl b
  · subst e
    cases (show v = Value.bool b from rx)
    exact wpAny_is_self rfl ⟨.bl true, H, I, rfl, by simpa using q⟩
  · refine wpAny_is_other (by cases x <;> first | (cases rx; rfl) | (obtain ⟨t, rfl⟩ := rx; rfl)) (fun z => ?_) ⟨.bl false, H, I, rfl, by simpa [e] using q⟩
    cases x <;> first
      | (cases rx; exact e (by cases z; rfl))
      | (obtain ⟨t, rfl⟩ := rx; cases z)
      | (cases rx; cases z)
end
/-- a tuple of the module, as a thing with methods -/
def tupO (K : PySem.W.Frag) (x : Str) : Bool := match K.lookup (ga K x) with
  | some ⟨.type c, none, _, _⟩ => decide (c = "tuple")
  | _ => false
theorem tupO_ok {K : PySem.W.Frag} {x : Str} (h : tupO K x = true) (H : Hp) : tyV K "tuple" (.ref (ga K x)) H := by
  unfold tupO at h
  cases q : K.lookup (ga K x) with
  | none => rw [q] at h; cases h
  | some o =>
    obtain ⟨oc, od, dt, sl⟩ := o
    rw [q] at h
    cases oc with
    | type c =>
      cases od with
      | none => exact Or.inr (Or.inl ⟨rfl, _, q, congrArg Value.type (of_decide_eq_true h), rfl⟩)
      | some d => cases h
    | _ => cases od <;> cases h
/-- a statement, and what follows it from whatever it leaves -/
theorem seq_rest {A B : TS} {D : Ends} {σ : L2.St} {H : Hp} (W : L2.St → Hp → Prop) (h : ∀ nx : L2.St → Hp → Prop, (∀ σ' H', W σ' H' → nx σ' H') → A { D with nx := nx } σ H) (r : ∀ σ' H', W σ' H' → B D σ' H') : tSeq A B D σ H := h (B D) r
theorem dI (a b : Int) : decide (V.int a = V.int b) = decide (a = b) := by simp only [V.int.injEq]
theorem dS (a b : Str) : decide (V.str a = V.str b) = decide (a = b) := by simp only [V.str.injEq]
theorem dB (a b : Bool) : decide (V.bl a = V.bl b) = decide (a = b) := by simp only [V.bl.injEq]
theorem fmod_lo {a b : Int} (h : 0 < b) : 0 ≤ a.fmod b := by rw [Int.fmod_eq_emod_of_nonneg _ (Int.le_of_lt h)]; exact Int.emod_nonneg _ (by omega)
theorem fmod_hi {a b : Int} (h : 0 < b) : a.fmod b < b := by rw [Int.fmod_eq_emod_of_nonneg _ (Int.le_of_lt h)]; exact Int.emod_lt_of_pos _ h
theorem atI_of {α : Type} {xs : List α} {i : Int} (h0 : 0 ≤ i) (h1 : i < xs.length) : ∃ x, atI xs i = some x ∧ xs[i.toNat]? = some x := by
  obtain ⟨j, rfl⟩ : ∃ j : Nat, i = (j : Int) := ⟨i.toNat, by omega⟩
  have hj : j < xs.length := by omega
  refine ⟨xs[j], atI_nat (List.getElem?_eq_getElem hj), ?_⟩
  rw [Int.toNat_natCast]
  exact List.getElem?_eq_getElem hj
theorem atI_map {α β : Type} {f : α → β} {xs : List α} {i : Int} (h0 : 0 ≤ i) (h1 : i < xs.length) : ∃ x, atI (xs.map f) i = some (f x) ∧ xs[i.toNat]? = some x := by
  obtain ⟨y, h2, h3⟩ := atI_of (xs := xs.map f) h0 (by rw [List.length_map]; exact h1)
  rw [List.getElem?_map] at h3
  cases e : xs[i.toNat]? with
  | none => rw [e] at h3; cases h3
  | some x =>
    rw [e] at h3
    cases h3
    exact ⟨x, h2, rfl⟩
theorem seq_skip {A B : TS} {D : Ends} {σ : L2.St} {H : Hp} (h : ∀ nx : L2.St → Hp → Prop, nx σ H → A { D with nx := nx } σ H) (r : B D σ H) : tSeq A B D σ H := h (B D) r
section
variable {K : PySem.W.Frag} {wi : TI} {g : TG} {tb : TS} {D : Ends} {σ : L2.St} {H H1 : Hp}
/-- for k in range(..) -/
theorem tfor_rng {lo : Int} {n : Nat} (Pv : Nat → L2.St → Hp → Prop) (hw : ∀ R : It → Hp → Prop, R (Itr lo n) H1 → wi σ H R) (h0 : Pv 0 σ H1)
    (hs : ∀ (i : Nat) σ H (nx : L2.St → Hp → Prop), i < n → Pv i σ H → (∀ σ' H', Pv (i + 1) σ' H' → nx σ' H') → g (.int (lo + i)) σ H fun σ2 H2 => tb { D with nx := nx, ct := nx, bk := D.nx } σ2 H2) (hd : ∀ σ H, Pv n σ H → D.nx σ H) : tFor wi g tb D σ H :=
  hw _ (for_range Pv h0 (fun i σ H hi hp => hs i σ H _ hi hp fun _ _ q => q) hd)
/-- for x in a list that stands still -/
theorem tfor_lst {a : Addr} {xs : List V} (Pv : Nat → L2.St → Hp → Prop) (hw : ∀ R : It → Hp → Prop, R (Itl K a) H1 → wi σ H R) (h0 : Pv 0 σ H1) (hl : ∀ i σ H, i ≤ xs.length → Pv i σ H → SqL K H a xs)
    (hs : ∀ (i : Nat) x σ H (nx : L2.St → Hp → Prop), xs[i]? = some x → Pv i σ H → (∀ σ' H', Pv (i + 1) σ' H' → nx σ' H') → g x σ H fun σ2 H2 => tb { D with nx := nx, ct := nx, bk := D.nx } σ2 H2) (hd : ∀ σ H, Pv xs.length σ H → D.nx σ H) : tFor wi g tb D σ H :=
  hw _ (for_list Pv h0 hl (fun i x σ H hi hp => hs i x σ H _ hi hp fun _ _ q => q) hd)
theorem tfor_tup {a : Addr} {xs : List V} (Pv : Nat → L2.St → Hp → Prop) (hw : ∀ R : It → Hp → Prop, R (Itt K a) H1 → wi σ H R) (h0 : Pv 0 σ H1) (hl : ∀ i σ H, i ≤ xs.length → Pv i σ H → SqT K H a xs)
    (hs : ∀ (i : Nat) x σ H (nx : L2.St → Hp → Prop), xs[i]? = some x → Pv i σ H → (∀ σ' H', Pv (i + 1) σ' H' → nx σ' H') → g x σ H fun σ2 H2 => tb { D with nx := nx, ct := nx, bk := D.nx } σ2 H2) (hd : ∀ σ H, Pv xs.length σ H → D.nx σ H) : tFor wi g tb D σ H :=
  hw _ (for_tup Pv h0 hl (fun i x σ H hi hp => hs i x σ H _ hi hp fun _ _ q => q) hd)
end
theorem ty_SqT {K : PySem.W.Frag} {H : Hp} {a : Addr} {xs : List V} (h : SqT K H a xs) : TyX K H (.ref a) (.type "tuple") := by
  rcases h with (h | ⟨o, h⟩) | ⟨o, its, n, h1, h2, _⟩
  · exact .base (.tup h)
  · exact .fTuple h
  · exact .kTuple h1 h2
theorem ty_SqL {K : PySem.W.Frag} {H : Hp} {a : Addr} {xs : List V} (h : SqL K H a xs) : TyX K H (.ref a) (.type "list") := by
  rcases h with (h | ⟨o, h⟩) | ⟨o, its, n, h1, h2, _⟩
  · exact .base (.lst h)
  · exact .base (.frz h)
  · exact .kList h1 h2
theorem DpAll.len {K : PySem.W.Frag} {H : Hp} : ∀ {xs : List V} {ds : List PyData}, DpAll K H xs ds → xs.length = ds.length
  | _, _, .nil => rfl
  | _, _, .cons _ t => congrArg Nat.succ (DpAll.len t)
theorem DpAll.get {K : PySem.W.Frag} {H : Hp} : ∀ {xs : List V} {ds : List PyData} {i : Nat} {d : PyData}, DpAll K H xs ds → ds[i]? = some d → ∃ x, xs[i]? = some x ∧ Dp K H x d
  | _, _, _, _, .nil, e => by simp at e
  | _, _, 0, _, .cons h _, e => by simp at e; subst e; exact ⟨_, rfl, h⟩
  | _, _, i + 1, d, .cons _ t, e => by
    obtain ⟨x, h1, h2⟩ := DpAll.get (i := i) (d := d) t (by simpa using e)
    exact ⟨x, by simpa using h1, h2⟩
/-! ### calls in a try's body -/
section
variable {X : Cx} {CX : CXT} {k : Nat} {x : Str} {ps : List Str} {sp : Sp} {E : L2.St → XK} {e : Expr} {es : List Expr} {p pos apos : Pos} {t : TA} {ta : TE} {m : Str} {o : Expr} {C : Addr}
theorem pe_gS (G : GOk X.prog X.w X.K X.mg X.base CX k x ps sp) (hr : Room k X.A) (hx : ∀ σ, PassesAt CX X σ (E σ)) (ha : PA X (e :: es) t) (hg : Gl X x := by rfl)
    (hdb : (x == ("__debug__" : Str)) = false := by decide) (he : starEach (e :: es) X.env = (false, eval e X.env) :: starEach es X.env := by rfl) (hpl : (backTo pos (starEach es X.env)).any (·.1) = false := by rfl) :
    PE X (.Call (.Name x p) (e :: es) [] pos) (tCallS sp E t) := by
  obtain ⟨fd, h1, h2, h3⟩ := G.ex
  exact pe_callS h3 hr hg G.g h1 h2 hx ha hdb he hpl
def tStatS (C : Addr) (sp : Sp) (E : L2.St → XK) (ta : TE) (t : TA) : TE := fun σ H Q => ta σ H fun x H1 => x = .ref C ∧ t σ H1 fun vs H2 => sp vs H2 Q (E σ)
theorem pe_sS {pl : Sem Bool} {K : PySem.W.Frag} (G : AOk X.prog X.w X.K X.mg X.base CX k (sg K x m) ps sp) (r : readB K x = true) (c : statB K x m = true) (hr : Room k X.A) (hx : ∀ σ, PassesAt CX X σ (E σ)) (hex : PE X o ta) (ha : PA X (e :: es) t) (hK : X.K = K := by rfl)
    (hst : starEach (e :: es) X.env = (false, eval e X.env) :: starEach es X.env := by rfl) (hpl : (backTo pos (starEach es X.env)).any (·.1) = false := by rfl)
    (ht : eval (.Call (.Attribute o m apos) (e :: es) [] pos) X.env = (do
      let ov ← eval o X.env
      standAt apos.atName
      let (f, first) ← holding [ov] (getMethod ov m pl)
      callWith pos f first (backTo pos (starEach (e :: es) X.env)) (backToKw pos (keywordEach [] X.env))) := by rfl) :
    PE X (.Call (.Attribute o m apos) (e :: es) [] pos) (tStatS (ga K x) sp E ta t) := by
  subst hK
  obtain ⟨fd, h2, h3⟩ := G.ex
  obtain ⟨c1, c2⟩ := ba c
  obtain ⟨w1, rest, w2⟩ := He5.wrapB_ok c1
  have R := read_ok r
  refine ⟨fun pins s σ H Q I h => ?_⟩
  refine PySem.W.methodCall_KW (pl := pl) (thn (hex.run pins s σ H _ I h) fun u s1 ⟨y, H1, I1, rx, ex, q⟩ => ?_) ht
  subst ex
  obtain rfl : u = Value.ref (ga X.K x) := rx
  refine PySem.W.method_cls I1.kIn R.ga (PySem.W.cls_bind I1.kIn R.rd w1 (wpAny_call (PySem.W.sm_get (s := { s1 with toks := s1.toks + 1 }) I1.kIn w2 (PySem.W.handed_on rfl ?_))))
  have I2 := I1.tok (s1.toks + 1)
  refine PySem.W.callWith_K (h₀ := X.base) I2.ok.mod.kin c2 (thn (ha.run pos pins _ σ H1 _ I2 q) fun us s3 ⟨vs, H2, I3, rv, q2⟩ => ⟨I3.kIn, ?_⟩) hst hpl
  exact run_fnS h3 hr h2 (hx σ) I3 rv q2
/-- isinstance(e, C), e the exception that the suite holds, of whatever own class -/
theorem call_isEx {a : Addr} {oe : Obj} {cls : Value} {d : Option Addr} {pn : List (Addr × Obj)} (hz : Zc cls d oe) (hf : ∃ vs, oe.data = .fields vs) :
    CallR (X.suite a ((a, oe) :: pn)) (.builtin "isinstance") (fun xs H Q => ∃ D, cls = .ref D ∧ d = none ∧ ExcC X.K D ∧ rIsE X.K D a xs H Q) := by
  intro pins s σ H xs us Q I r h
  obtain ⟨D, rfl, rfl, c, q⟩ := h
  exact call_isE c hz hf pins s σ H xs us Q I r q
end
theorem op_notIn_seqK {X : Cx} {K : PySem.W.Frag} (h : X.K = K := by rfl) : OpR X (compareOp .NotIn) (rIn K true) := h ▸ op_notIn_seq
theorem op_in_seqK {X : Cx} {K : PySem.W.Frag} (h : X.K = K := by rfl) : OpR X (compareOp .In) (rIn K false) := h ▸ op_in_seq
theorem mkL {P : Program} {w : World} {K : PySem.W.Frag} {mg : Str → Option Value} {base : Heap} {nm qual : Str} {st : Stmt} {N ps : List Str} {k : Nat} {CX : CXT} {sp : Sp} {a : Addr} {fd : FuncData} (F : FunD K nm qual (defArgs st) (defBody st) (defScope st) [] [] a fd)
    (S : FnScope N ps (defScope st)) (len : ∀ vs H Q E, sp vs H Q E → vs.length = ps.length)
    (hbody : ∀ (cdv : Value) (A : Around) (outer : List Env) (s : Shared) (H : Hp) (vs : List V) (Q : VK) (E : XK), Room k (A.deeper (envOfC qual (defScope st) s.heap.objs.size a cdv)) → sp vs H Q E →
      ∃ t, PSs (cxOf CX P w K mg base N qual (defScope st) a cdv A outer s H E).nox (defBody st) t ∧ t { nx := fun _ H' => Q .non H', rt := Q } (start N vs) H) : FnOk P w K mg base CX (k + 1) a fd ps sp :=
  F.ok S len fun cdv A outer s H vs Q E hr h => let ⟨t, h1, h2⟩ := hbody cdv A outer s H vs Q E hr h; ⟨t, h1.nox, h2⟩
end Hk

end
section
set_option Elab.async false
set_option linter.all false
set_option maxRecDepth 100000
set_option maxHeartbeats 4000000
/-! Own error classes whose __init__ stores fields: facts by one Bool; C() without arguments. -/
namespace Hk
open PySem PySem.Spec PyProof.Rows L2
open He (ga ma ba eqO eqO_ok)
/-- the shape of such a class -/
def shapeB (K : PySem.W.Frag) (C : Addr) : Bool := match K.lookup C with
  | some ⟨.type "type", _, .cls c, v⟩ => (match c.mro, v.toList with
    | .ref D :: l, [_, _, _, _, some (.builtin n), _] => (D == C && n == "ValueError.__new__") && ((!c.hasDel && c.hasDict) && PySem.HandSPX.refsVE l)
    | _, _ => false)
  | _ => false
theorem shape_ok {K : PySem.W.Frag} {C : Addr} (h : shapeB K C = true) : ∃ nm q N bs bm sn sub ab col dd k0 k1 k2 k3 k5, K.lookup C = some (excClassObj nm q C N bs bm true sn sub ab col dd k0 k1 k2 k3 k5 "ValueError.__new__") ∧ PySem.HandSPX.refsVE bm = true := by
  unfold shapeB at h
  split at h
  · rename_i dd c v e
    split at h
    · rename_i D l a0 a1 a2 a3 n a5 em es
      obtain ⟨h1, h2⟩ := ba h
      obtain ⟨h11, h12⟩ := ba h1
      obtain ⟨h21, h22⟩ := ba h2
      obtain ⟨h3, h4⟩ := ba h21
      obtain rfl := beq_iff_eq.mp h11
      obtain rfl := beq_iff_eq.mp h12
      obtain ⟨nm, bs, mro, ns, qn, hd, sn, sub, ab, col, dl⟩ := c
      obtain ⟨v⟩ := v
      dsimp only at em es h3 h4
      obtain rfl : dl = false := by cases dl with | false => rfl | true => cases h3
      subst em es h4
      exact ⟨nm, qn, ns, bs, l, sn, sub, ab, col, dd, a0, a1, a2, a3, a5, e, h22⟩
    · cases h
  · cases h
def oexB (K : PySem.W.Frag) (x : Str) : Bool := (shapeB K (ga K x) && eqO (PySem.W.findIn K (.ref (ga K x)) "__setattr__") (some (some (.builtin "object.__setattr__")))) && ((decide (PySem.W.subIn K (.ref (ga K x)) (.type "BaseException") = some true) && decide (PySem.W.typeIn K (.ref (ga K x)) = some (.type "type"))) && (PySem.W.keepIn K (.ref (ga K x))))
theorem oex_ok {K : PySem.W.Frag} {x : Str} (h : oexB K x = true) : OexC K (ga K x) := by
  obtain ⟨h1, h2⟩ := ba h
  obtain ⟨h3, h4⟩ := ba h1
  obtain ⟨h5, h6⟩ := ba h2
  obtain ⟨h7, h8⟩ := ba h5
  exact ⟨shape_ok h3, eqO_ok h4, of_decide_eq_true h7, of_decide_eq_true h8, h6⟩
/-- its __init__ -/
def xinB (K : PySem.W.Frag) (x : Str) : Bool := eqO (PySem.W.findIn K (.ref (ga K x)) "__init__") (some (some (.ref (mt K x "__init__")))) && decide (PySem.W.typeIn K (.ref (mt K x "__init__")) = some (.type "function"))
structure XIn (K : PySem.W.Frag) (x : Str) : Prop where
  fi : PySem.W.findIn K (.ref (ga K x)) "__init__" = some (some (.ref (mt K x "__init__")))
  ty : PySem.W.typeIn K (.ref (mt K x "__init__")) = some (.type "function")
theorem xin_ok {K : PySem.W.Frag} {x : Str} (h : xinB K x = true) : XIn K x := let ⟨a, b⟩ := ba h; ⟨eqO_ok a, of_decide_eq_true b⟩
def noxB (K : PySem.W.Frag) (x f : Str) : Bool := eqO (PySem.W.findIn K (.ref (ga K x)) f) (some none)
section
variable {X : Cx} {CX : CXT} {k : Nat} {x : Str} {ps : List Str} {sp : Sp} {p pos : Pos}
/-- C(), C's own __init__ keeping sp -/
theorem pmk_oex0 {C fI : Addr} {fd : FuncData} (T : OexC X.K C) (iC : PySem.W.findIn X.K (.ref C) "__init__" = some (some (.ref fI))) (tI : PySem.W.typeIn X.K (.ref fI) = some (.type "function")) (F1 : FnOk X.prog X.w X.K X.mg X.base CX k fI fd ps sp)
    (hr : Room (k + 1) X.A) (hb : Binds X.K fd ps []) (hx : Passes CX X (fun _ _ _ => False)) (hg : Gl X x) (hm : X.mg x = some (.ref C)) (hdb : (x == ("__debug__" : Str)) = false := by decide) :
    PMk X (.Call (.Name x p) [] [] pos) (fun σ H Q => ∀ a, H a = none → sp [.ref a] (upd H a (exo a C none)) (fun v H2 => v = .non ∧ ∃ (d : Addr) (fs : List (Str × V)), H2 a = some (exo a C (some d)) ∧ H2 d = some (exd d fs) ∧ H d = none ∧ Q (.ref C) (some d) (upd (del H2 a) d (.xd fs))) (fun _ _ _ => False)) := by
  intro pins s σ H Q I h
  obtain ⟨nm, q, N, bs, bm, sn, sub, ab, col, dd, k0, k1, k2, k3, k5, hC, hbm⟩ := T.cls
  refine wpAny_Call_Name_kw (ld_glob I hg hm (PySem.W.callWith_K0 I.kIn T.kC ?_) hdb)
  obtain ⟨g0, gs, dr, tk, os⟩ := s
  have z1 : g0.objs.size ≤ g0.objs.size + 1 := Nat.le_succ _
  have hq := h (g0.objs.size + 1) (I.hok.fresh z1)
  have kk : ∀ b o, g0.get? b = some o → ((g0.push (PySem.W.kdv_tup [])).push (PySem.HandSPX.excO C g0.objs.size)).get? b = some o :=
    fun b o e => Heap.get?_push_of_some _ (Heap.get?_push_of_some _ e)
  have I2 : Inv X pins σ (upd H (g0.objs.size + 1) (exo (g0.objs.size + 1) C none)) ⟨(g0.push (PySem.W.kdv_tup [])).push (PySem.HandSPX.excO C g0.objs.size), gs, dr, tk, os⟩ :=
    Inv.laid (t' := tk) I kk z1 (exo_ok (t1 := g0.objs.size) (by heap_get))
  have r2 : Vals [V.ref (g0.objs.size + 1)] (Value.ref (g0.objs.size + 1) :: ([] : List Value)) := .cons rfl .nil
  have hl : (Value.ref (g0.objs.size + 1) :: ([] : List Value)).length = ps.length := (F1.len _ _ _ _ hq).symm ▸ rfl
  show wpAny _ _ (call (.ref C) []) _ _ _
  have run1 := F1.run _ X.stack _ _ ⟨[Value.ref (g0.objs.size + 1)], []⟩ [Value.ref (g0.objs.size + 1)] _ _ (fun _ _ _ => False) (hr.make C [] []) (I2.env0.make C [] []) (hb _ [Value.ref (g0.objs.size + 1)] I2.kIn hl) r2 hq
  refine wpAny_call (PySem.HandSPX.call_own F.excBase_ValueError (fun Y => PySem.HandSPX.refsVE_contains Y bm hbm) (I.kIn _ _ hC) (PySem.W.looks_findIn I.kIn iC) (fun self => PySem.W.bind_fn I.kIn self tI) (Nat.zero_le _) (codeAny_mono run1 (fun r s' hq' => ?_)))
  cases r with
  | error er => exact hx pins σ _ _ er s' I2 hq'
  | ok fl =>
    cases fl with
    | ret u =>
        obtain ⟨v, H2, o2, b2, un2, hk2, rv, ev, d, fs, ea, ed, hd1, q2⟩ := hq'
        obtain rfl := ev
        exact ⟨rv, mk_end (raises_own T.exC T.tyC) I z1 kk un2 hk2 o2 b2 ea ed hd1 q2⟩
    | next => exact hq'.elim
    | brk => exact hq'.elim
    | cont => exact hq'.elim
end
end Hk
namespace Hk
open PySem PySem.Spec PyProof.Rows L2
open He (ga ma ba eqO eqO_ok)
section
variable {X : Cx} {CX : CXT} {k : Nat} {x : Str} {ps : List Str} {sp : Sp} {p pos : Pos}
theorem pmk_x0 {K : PySem.W.Frag} (T : OexC K (ga K x)) (I : XIn K x) (G : AOk X.prog X.w K X.mg X.base CX k (mt K x "__init__") ps sp) (hr : Room (k + 1) X.A) (hx : Passes CX X (fun _ _ _ => False)) (hm : X.mg x = some (.ref (ga K x))) (hK : X.K = K := by rfl) (hg : Gl X x := by rfl)
    (hdb : (x == ("__debug__" : Str)) = false := by decide) :
    PMk X (.Call (.Name x p) [] [] pos) (fun σ H Q => ∀ a, H a = none → sp [.ref a] (upd H a (exo a (ga K x) none)) (fun v H2 => v = .non ∧ ∃ (d : Addr) (fs : List (Str × V)), H2 a = some (exo a (ga K x) (some d)) ∧ H2 d = some (exd d fs) ∧ H d = none ∧ Q (.ref (ga K x)) (some d) (upd (del H2 a) d (.xd fs))) (fun _ _ _ => False)) := by
  subst hK
  obtain ⟨fd, b, c⟩ := G.ex
  exact pmk_oex0 T I.fi I.ty c hr b hx hg hm hdb
end
end Hk

end
section
set_option Elab.async false
set_option linter.all false
set_option maxRecDepth 100000
set_option maxHeartbeats 4000000
/-! isinstance of a caught error that has fields. -/
namespace Hk
open PySem PySem.Spec PyProof.Rows L2
open He (ga ma ba eqO eqO_ok)
section
variable {X : Cx} {a : Addr} {oe : Obj} {cls : Value} {d : Option Addr} {pn : List (Addr × Obj)}
theorem call_isEd (hz : Zc cls d oe) (hf : ∃ vs, oe.data = .fields vs) :
    CallR (X.suite a ((a, oe) :: pn)) (.builtin "isinstance") (fun xs H Q => ∃ (D dd : Addr) (fs : List (Str × V)), cls = .ref D ∧ d = some dd ∧ H dd = some (.xd fs) ∧ ExcC X.K D ∧ rIsE X.K D a xs H Q) := by
  rintro pins s σ H xs us Q I r ⟨D, dd, fs, rfl, rfl, ex, C, c, cv, b, rfl, hcv, e, q⟩
  match us, r with
  | [u1, u2], .cons rx (.cons rt .nil) =>
    obtain rfl : u1 = Value.ref a := rx
    obtain rfl := hcv _ rt
    obtain ⟨ha, _⟩ := I.pin (a, oe) (List.mem_append_left _ List.mem_cons_self)
    obtain ⟨ws, hd⟩ := hf
    have hx : ObjOk X.prog X.w H s.heap dd (.xd fs) := I.hok dd _ ex
    obtain ⟨mA, hns, _⟩ := hx
    obtain ⟨od, ho, _⟩ := lookIn_ns hns
    have J : PySem.W.InstAt s.heap a oe D (some od) := ⟨ha, hz.1, by unfold PySem.W.notCls; rw [hd] <;> rfl, by rw [hz.2]; exact ho⟩
    have hcl : (PySem.W.clsIn X.K D).isSome = true := by
      obtain ⟨cd, hc, _⟩ := PySem.W.any_some C.hd
      rw [hc] <;> rfl
    exact PySem.W.kia_one (PySem.W.kitx_exc hcl C.hg C.hk C.hs C.ha C.hn C.ht C.hm) I.kIn J e nofun fun tk => ⟨.bl b, H, I.kept (t' := tk) fun _ _ z => z, rfl, q⟩
end
end Hk

end
section
set_option Elab.async false
set_option linter.all false
set_option maxRecDepth 100000
set_option maxHeartbeats 4000000
/-! Errors whose context is None; defs called within an except suite. -/
namespace Hk
open PySem PySem.Spec PyProof.Rows L2
open He (ga ma ba eqO eqO_ok)
section
variable {X : Cx} {CX : CXT} {k : Nat} {x : Str} {ps : List Str} {sp : Sp} {p pos : Pos} {E : L2.St → XK} {e : Expr} {es : List Expr} {t : TA}
theorem pmkN_x0 {K : PySem.W.Frag} (T : OexC K (ga K x)) (Y : XIn K x) (G : AOk X.prog X.w K X.mg X.base CX k (mt K x "__init__") ps sp) (hr : Room (k + 1) X.A) (hx : Passes CX X (fun _ _ _ => False)) (hm : X.mg x = some (.ref (ga K x))) (hK : X.K = K := by rfl) (hg : Gl X x := by rfl)
    (hdb : (x == ("__debug__" : Str)) = false := by decide) :
    L2N.PMk X (.Call (.Name x p) [] [] pos) (fun σ H Q => ∀ a, H a = none → sp [.ref a] (upd H a (exo a (ga K x) none)) (fun v H2 => v = .non ∧ ∃ (d : Addr) (fs : List (Str × V)), H2 a = some (exo a (ga K x) (some d)) ∧ H2 d = some (exd d fs) ∧ H d = none ∧ Q (.ref (ga K x)) (some d) (upd (del H2 a) d (.xd fs))) (fun _ _ _ => False)) := by
  subst hK
  obtain ⟨fd, hb, F1⟩ := G.ex
  intro pins s σ H Q I h
  obtain ⟨nm, q, N, bs, bm, sn, sub, ab, col, dd, k0, k1, k2, k3, k5, hC, hbm⟩ := T.cls
  refine wpAny_Call_Name_kw (ld_glob I hg hm (PySem.W.callWith_K0 I.kIn T.kC ?_) hdb)
  obtain ⟨g0, gs, dr, tk, os⟩ := s
  have z1 : g0.objs.size ≤ g0.objs.size + 1 := Nat.le_succ _
  have hq := h (g0.objs.size + 1) (I.hok.fresh z1)
  have kk : ∀ b o, g0.get? b = some o → ((g0.push (PySem.W.kdv_tup [])).push (PySem.HandSPX.excO (ga X.K x) g0.objs.size)).get? b = some o :=
    fun b o e => Heap.get?_push_of_some _ (Heap.get?_push_of_some _ e)
  have I2 : Inv X pins σ (upd H (g0.objs.size + 1) (exo (g0.objs.size + 1) (ga X.K x) none)) ⟨(g0.push (PySem.W.kdv_tup [])).push (PySem.HandSPX.excO (ga X.K x) g0.objs.size), gs, dr, tk, os⟩ :=
    Inv.laid (t' := tk) I kk z1 (exo_ok (t1 := g0.objs.size) (by heap_get))
  have r2 : Vals [V.ref (g0.objs.size + 1)] (Value.ref (g0.objs.size + 1) :: ([] : List Value)) := .cons rfl .nil
  have hl : (Value.ref (g0.objs.size + 1) :: ([] : List Value)).length = ps.length := (F1.len _ _ _ _ hq).symm ▸ rfl
  show wpAny _ _ (call (.ref (ga X.K x)) []) _ _ _
  have run1 := F1.run _ X.stack _ _ ⟨[Value.ref (g0.objs.size + 1)], []⟩ [Value.ref (g0.objs.size + 1)] _ _ (fun _ _ _ => False) (hr.make (ga X.K x) [] []) (I2.env0.make (ga X.K x) [] []) (hb _ [Value.ref (g0.objs.size + 1)] I2.kIn hl) r2 hq
  refine wpAny_call (PySem.HandSPX.call_own F.excBase_ValueError (fun Z => PySem.HandSPX.refsVE_contains Z bm hbm) (I.kIn _ _ hC) (PySem.W.looks_findIn I.kIn Y.fi) (fun self => PySem.W.bind_fn I.kIn self Y.ty) (Nat.zero_le _) (codeAny_mono run1 (fun r s' hq' => ?_)))
  cases r with
  | error er => exact hx pins σ _ _ er s' I2 hq'
  | ok fl =>
    cases fl with
    | ret u =>
      obtain ⟨v, H2, o2, b2, un2, hk2, rv, ev, d, fs, ea, ed, hd1, q2⟩ := hq'
      obtain rfl := ev
      obtain ⟨h2, gs2, dr2, tk2, os2⟩ := s'
      obtain ⟨u0, G2, J, kG, ge, hoe, na⟩ := mk_end0 (d2 := dr2) (t2 := tk2) I z1 kk un2 hk2 o2 b2 ea ed hd1
      exact ⟨rv, g0.objs.size + 1, _, _, ⟨G2, gs2, dr2, tk2, os2⟩, _, .ref (ga X.K x), some d, rfl, J, kG, ge, hoe, ⟨rfl, rfl, fun vs hv => by cases hv; rfl⟩, rfl, rfl, na, rfl, b2, raises_own T.exC T.tyC, q2⟩
    | next => exact hq'.elim
    | brk => exact hq'.elim
    | cont => exact hq'.elim
theorem takesN0 : L2N.Takes X (fun _ _ _ _ => False) := fun _ _ x => by
  obtain ⟨_, _, _, _, _, _, _, _, _, _, _, _, _, _, _, _, z⟩ := x
  exact z.elim
theorem passA0 {E : XK} (σ : L2.St) : PassesAt CX0 X σ E := fun _ _ _ _ _ _ h => h.elim
/-! ### defs called in a suite -/
structure GOkH (P : Program) (w : World) (K : PySem.W.Frag) (mg : Str → Option Value) (base : Heap) (CX : CXT) (k : Nat) (x : Str) (ps : List Str) (sp : Sp) : Prop where
  g : mg x = some (.ref (ga K x))
  ex : ∃ fd, PySem.W.keepIn K (.ref (ga K x)) = true ∧ Binds K fd ps [] ∧ L2H.FnH P w K mg base CX k (ga K x) fd ps sp
theorem pe_gH (G : GOkH X.prog X.w X.K X.mg X.base CX k x ps sp) (hr : L2H.RoomH k X.A) (hc : L2H.HotC X) (hx : ∀ σ, PassesAt CX X σ (E σ)) (ha : PA X (e :: es) t) (hg : Gl X x := by rfl)
    (hdb : (x == ("__debug__" : Str)) = false := by decide) (he : starEach (e :: es) X.env = (false, eval e X.env) :: starEach es X.env := by rfl) (hpl : (backTo pos (starEach es X.env)).any (·.1) = false := by rfl) :
    PE X (.Call (.Name x p) (e :: es) [] pos) (tCallS sp E t) := by
  obtain ⟨fd, h1, h2, h3⟩ := G.ex
  exact L2H.pe_callH h3 hr hc hg G.g h1 h2 hx ha hdb he hpl
theorem hot_suite {a : Addr} {oe : Obj} {cls : Value} {d : Option Addr} {pn : List (Addr × Obj)} (hz : L2N.Zn cls d oe) (hf : ∃ vs, oe.data = .fields vs) : L2H.HotC (X.suite a ((a, oe) :: pn)) := by
  obtain ⟨vs, hd⟩ := hf
  exact ⟨(a, oe), ⟨rfl, vs, hd, hz.2.2 vs hd⟩, List.mem_cons_self⟩
end
section
variable {P : Program} {w : World} {K : PySem.W.Frag} {mg : Str → Option Value} {base : Heap} {nm qual : Str} {st : Stmt} {N ps : List Str} {k : Nat} {CX : CXT} {sp : Sp}
theorem mkGH (g : mg nm = some (.ref (ga K nm))) (F : ∃ fd, FunD K nm qual (defArgs st) (defBody st) (defScope st) [] [] (ga K nm) fd)
    (hb : ∀ (kV doc pm : Value) (an : Option Addr) (cdv ct : Value) (us : List Value), us.length = ps.length → bindArgs (PySem.W.fnOf nm qual (defArgs st) (defBody st) (defScope st) .none kV doc pm an cdv ct) ⟨us, []⟩ = pure (ps.zip us))
    (S : FnScope N ps (defScope st)) (len : ∀ vs H Q E, sp vs H Q E → vs.length = ps.length)
    (hbody : ∀ (cdv : Value) (A : Around) (outer : List Env) (s : Shared) (H : Hp) (vs : List V) (Q : VK) (E : XK) (p : Addr × Obj), L2H.HotC (L2H.cxH CX P w K mg base N qual (defScope st) (ga K nm) cdv A outer s H E p).nox → L2H.RoomH k (A.deeper (envOfC qual (defScope st) s.heap.objs.size (ga K nm) cdv)) → sp vs H Q E →
      ∃ t, PSs (L2H.cxH CX P w K mg base N qual (defScope st) (ga K nm) cdv A outer s H E p).nox (defBody st) t ∧ t { nx := fun _ H' => Q .non H', rt := Q } (start N vs) H) : GOkH P w K mg base CX (k + 1) nm ps sp := by
  obtain ⟨fd, F⟩ := F
  have F' := F.bindsN hb
  have kp := F.kp
  obtain ⟨oc, od, dV, kV, doc, pm, an, cdv, ct, osl, rfl, lk, hcd, _, _⟩ := F.ex
  refine ⟨g, _, kp, F', L2H.fn_ofH lk hcd S len fun A outer s H vs Q E p hot hr hsp => ?_⟩
  obtain ⟨t, h1, h2⟩ := hbody cdv A outer s H vs Q E p ⟨p, hot, List.mem_cons_self⟩ hr hsp
  exact ⟨t, h1.nox, h2⟩
end
end Hk
namespace Hk
open PySem PySem.Spec PyProof.Rows L2
theorem sl_tupAK {X : Cx} {K : PySem.W.Frag} (h : X.K = K := by rfl) : SlR X (rSlA K) := h ▸ sl_tupA
theorem op_catAK {X : Cx} {K : PySem.W.Frag} (h : X.K = K := by rfl) : OpR X (binaryOp .Add) (rCatA K) := h ▸ op_catA
end Hk

end
section
set_option Elab.async false
set_option linter.all false
set_option maxRecDepth 100000
set_option maxHeartbeats 4000000
namespace K03
open PySem PySem.Spec PyProof.Rows L2
open He (ga ma ba)
def top (i : Nat) : Stmt := PySem.Challenge.pw_bookstogether_k03_truth_of_conditions.main.body.getD i (.Pass ⟨0, 0, 0, 0⟩)
abbrev s_wall : Stmt := top 0
abbrev s_ZeroDivisor_init : Stmt := inClass (top 4) 0
abbrev s_Truth_init : Stmt := inClass (top 8) 1
abbrev s_Truth_of : Stmt := inClass (top 8) 2
abbrev s_Truth_from_word : Stmt := inClass (top 8) 3
abbrev s_Truth_value : Stmt := inClass (top 8) 4
abbrev s_Truth_word : Stmt := inClass (top 8) 5
abbrev s_Truth_and : Stmt := inClass (top 8) 6
abbrev s_Truth_or : Stmt := inClass (top 8) 7
abbrev s_Truth_xor : Stmt := inClass (top 8) 8
abbrev s_Truth_invert : Stmt := inClass (top 8) 9
abbrev s_Truth_eq : Stmt := inClass (top 8) 10
abbrev s_Truth_ne : Stmt := inClass (top 8) 11
abbrev s_Truth_lt : Stmt := inClass (top 8) 12
abbrev s_Truth_le : Stmt := inClass (top 8) 13
abbrev s_Truth_bool : Stmt := inClass (top 8) 14
abbrev s_truth : Stmt := top 10
abbrev s_simple_value : Stmt := top 11
abbrev s_quotient_value : Stmt := top 12
abbrev s_atom : Stmt := top 13
abbrev s_only : Stmt := top 14
abbrev s_box : Stmt := top 16
abbrev s_draw : Stmt := top 17
abbrev s_row : Stmt := top 18
abbrev s_condition : Stmt := top 19
abbrev s_Latom : Stmt := top 20
abbrev s_Lonly : Stmt := top 21
abbrev s_Ltruth : Stmt := top 22
abbrev s_every : Stmt := top 23
abbrev s_alike : Stmt := top 24
abbrev s_wraps : Stmt := top 25
abbrev s_wrapped : Stmt := top 26
abbrev s_told : Stmt := top 27
abbrev s_law : Stmt := top 28
theorem sc_wall : FnScope ["k"] ["k"] (defScope s_wall) := ⟨rfl, rfl, rfl, by decide +kernel, rfl, by decide +kernel, by decide +kernel⟩
theorem sc_ZeroDivisor_init : FnScope ["self"] ["self"] (defScope s_ZeroDivisor_init) := ⟨rfl, rfl, rfl, by decide +kernel, rfl, by decide +kernel, by decide +kernel⟩
theorem sc_Truth_init : FnScope ["self", "rank"] ["self", "rank"] (defScope s_Truth_init) := ⟨rfl, rfl, rfl, by decide +kernel, rfl, by decide +kernel, by decide +kernel⟩
theorem sc_Truth_of : FnScope ["value"] ["value"] (defScope s_Truth_of) := ⟨rfl, rfl, rfl, by decide +kernel, rfl, by decide +kernel, by decide +kernel⟩
theorem sc_Truth_from_word : FnScope ["word"] ["word"] (defScope s_Truth_from_word) := ⟨rfl, rfl, rfl, by decide +kernel, rfl, by decide +kernel, by decide +kernel⟩
theorem sc_Truth_value : FnScope ["self"] ["self"] (defScope s_Truth_value) := ⟨rfl, rfl, rfl, by decide +kernel, rfl, by decide +kernel, by decide +kernel⟩
theorem sc_Truth_word : FnScope ["self"] ["self"] (defScope s_Truth_word) := ⟨rfl, rfl, rfl, by decide +kernel, rfl, by decide +kernel, by decide +kernel⟩
theorem sc_Truth_and : FnScope ["self", "other"] ["self", "other"] (defScope s_Truth_and) := ⟨rfl, rfl, rfl, by decide +kernel, rfl, by decide +kernel, by decide +kernel⟩
theorem sc_Truth_or : FnScope ["self", "other"] ["self", "other"] (defScope s_Truth_or) := ⟨rfl, rfl, rfl, by decide +kernel, rfl, by decide +kernel, by decide +kernel⟩
theorem sc_Truth_xor : FnScope ["self", "other"] ["self", "other"] (defScope s_Truth_xor) := ⟨rfl, rfl, rfl, by decide +kernel, rfl, by decide +kernel, by decide +kernel⟩
theorem sc_Truth_invert : FnScope ["self"] ["self"] (defScope s_Truth_invert) := ⟨rfl, rfl, rfl, by decide +kernel, rfl, by decide +kernel, by decide +kernel⟩
theorem sc_Truth_eq : FnScope ["self", "other"] ["self", "other"] (defScope s_Truth_eq) := ⟨rfl, rfl, rfl, by decide +kernel, rfl, by decide +kernel, by decide +kernel⟩
theorem sc_Truth_ne : FnScope ["self", "other"] ["self", "other"] (defScope s_Truth_ne) := ⟨rfl, rfl, rfl, by decide +kernel, rfl, by decide +kernel, by decide +kernel⟩
theorem sc_Truth_lt : FnScope ["self", "other"] ["self", "other"] (defScope s_Truth_lt) := ⟨rfl, rfl, rfl, by decide +kernel, rfl, by decide +kernel, by decide +kernel⟩
theorem sc_Truth_le : FnScope ["self", "other"] ["self", "other"] (defScope s_Truth_le) := ⟨rfl, rfl, rfl, by decide +kernel, rfl, by decide +kernel, by decide +kernel⟩
theorem sc_Truth_bool : FnScope ["self"] ["self"] (defScope s_Truth_bool) := ⟨rfl, rfl, rfl, by decide +kernel, rfl, by decide +kernel, by decide +kernel⟩
theorem sc_truth : FnScope ["condition", "row", "word", "left"] ["condition", "row"] (defScope s_truth) := ⟨rfl, rfl, rfl, by decide +kernel, rfl, by decide +kernel, by decide +kernel⟩
theorem sc_simple_value : FnScope ["condition", "row", "word", "known"] ["condition", "row"] (defScope s_simple_value) := ⟨rfl, rfl, rfl, by decide +kernel, rfl, by decide +kernel, by decide +kernel⟩
theorem sc_quotient_value : FnScope ["dividend", "divisor", "value"] ["dividend", "divisor", "value"] (defScope s_quotient_value) := ⟨rfl, rfl, rfl, by decide +kernel, rfl, by decide +kernel, by decide +kernel⟩
theorem sc_atom : FnScope ["column", "value"] ["column", "value"] (defScope s_atom) := ⟨rfl, rfl, rfl, by decide +kernel, rfl, by decide +kernel, by decide +kernel⟩
theorem sc_only : FnScope ["row"] ["row"] (defScope s_only) := ⟨rfl, rfl, rfl, by decide +kernel, rfl, by decide +kernel, by decide +kernel⟩
theorem sc_box : FnScope ["_law_script"] ["_law_script"] (defScope s_box) := ⟨rfl, rfl, rfl, by decide +kernel, rfl, by decide +kernel, by decide +kernel⟩
theorem sc_draw : FnScope ["_law_box_here", "_law_size", "_law_drawn", "_law_mixed"] ["_law_box_here", "_law_size"] (defScope s_draw) := ⟨rfl, rfl, rfl, by decide +kernel, rfl, by decide +kernel, by decide +kernel⟩
theorem sc_row : FnScope ["_law_box_here", "_law_row_here", "_law_k"] ["_law_box_here"] (defScope s_row) := ⟨rfl, rfl, rfl, by decide +kernel, rfl, by decide +kernel, by decide +kernel⟩
theorem sc_condition : FnScope ["_law_box_here", "_law_levels", "_law_errs", "_law_word", "_law_column"] ["_law_box_here", "_law_levels", "_law_errs"] (defScope s_condition) := ⟨rfl, rfl, rfl, by decide +kernel, rfl, by decide +kernel, by decide +kernel⟩
theorem sc_Latom : FnScope ["_law_column", "_law_known"] ["_law_column", "_law_known"] (defScope s_Latom) := ⟨rfl, rfl, rfl, by decide +kernel, rfl, by decide +kernel, by decide +kernel⟩
theorem sc_Lonly : FnScope ["_law_row_here"] ["_law_row_here"] (defScope s_Lonly) := ⟨rfl, rfl, rfl, by decide +kernel, rfl, by decide +kernel, by decide +kernel⟩
theorem sc_Ltruth : FnScope ["_law_condition_here", "_law_row_here", "_law_word", "_law_part", "_law_stop", "_law_left", "_law_right", "_law_cell", "_law_lower"] ["_law_condition_here", "_law_row_here"] (defScope s_Ltruth) := ⟨rfl, rfl, rfl, by decide +kernel, rfl, by decide +kernel, by decide +kernel⟩
theorem sc_every : FnScope ["_law_rows", "_law_first", "_law_second", "_law_third"] [] (defScope s_every) := ⟨rfl, rfl, rfl, by decide +kernel, rfl, by decide +kernel, by decide +kernel⟩
theorem sc_alike : FnScope ["_law_actual", "_law_due", "_law_k"] ["_law_actual", "_law_due"] (defScope s_alike) := ⟨rfl, rfl, rfl, by decide +kernel, rfl, by decide +kernel, by decide +kernel⟩
theorem sc_wraps : FnScope ["_law_box_here", "_law_many", "_law_k"] ["_law_box_here", "_law_many"] (defScope s_wraps) := ⟨rfl, rfl, rfl, by decide +kernel, rfl, by decide +kernel, by decide +kernel⟩
theorem sc_wrapped : FnScope ["_law_wrap", "_law_condition_here"] ["_law_wrap", "_law_condition_here"] (defScope s_wrapped) := ⟨rfl, rfl, rfl, by decide +kernel, rfl, by decide +kernel, by decide +kernel⟩
theorem sc_told : FnScope ["_law_condition_here", "_law_row_here", "_law_told_here", "bad"] ["_law_condition_here", "_law_row_here"] (defScope s_told) := ⟨rfl, rfl, rfl, by decide +kernel, rfl, by decide +kernel, by decide +kernel⟩
theorem sc_law : FnScope ["_law_script", "_law_box_here", "_law_row_here", "_law_condition_here", "_law_wrap", "_law_rows", "_law_column", "_law_known", "_law_other", "_law_alone", "_law_told_here"] ["_law_script"] (defScope s_law) := ⟨rfl, rfl, rfl, by decide +kernel, rfl, by decide +kernel, by decide +kernel⟩
/-! ### the facts -/
def d_ZeroDivisor_init : He5.DefA := ⟨fun K => Hk.mt K "ZeroDivisor" "__init__", "__init__", "ZeroDivisor.__init__", defArgs s_ZeroDivisor_init, defBody s_ZeroDivisor_init, defScope s_ZeroDivisor_init, [], []⟩
def d_Truth_init : He5.DefA := ⟨fun K => Hk.mt K "Truth" "__init__", "__init__", "Truth.__init__", defArgs s_Truth_init, defBody s_Truth_init, defScope s_Truth_init, [], []⟩
def d_Truth_of : He5.DefA := ⟨fun K => Hk.sg K "Truth" "of", "of", "Truth.of", defArgs s_Truth_of, defBody s_Truth_of, defScope s_Truth_of, [], []⟩
def d_Truth_value : He5.DefA := ⟨fun K => Hk.pg K "Truth" "value", "value", "Truth.value", defArgs s_Truth_value, defBody s_Truth_value, defScope s_Truth_value, [], []⟩
def d_Truth_word : He5.DefA := ⟨fun K => Hk.pg K "Truth" "word", "word", "Truth.word", defArgs s_Truth_word, defBody s_Truth_word, defScope s_Truth_word, [], []⟩
def d_Truth_and : He5.DefA := ⟨fun K => Hk.mt K "Truth" "__and__", "__and__", "Truth.__and__", defArgs s_Truth_and, defBody s_Truth_and, defScope s_Truth_and, [], []⟩
def d_Truth_or : He5.DefA := ⟨fun K => Hk.mt K "Truth" "__or__", "__or__", "Truth.__or__", defArgs s_Truth_or, defBody s_Truth_or, defScope s_Truth_or, [], []⟩
def d_Truth_xor : He5.DefA := ⟨fun K => Hk.mt K "Truth" "__xor__", "__xor__", "Truth.__xor__", defArgs s_Truth_xor, defBody s_Truth_xor, defScope s_Truth_xor, [], []⟩
def d_Truth_invert : He5.DefA := ⟨fun K => Hk.mt K "Truth" "__invert__", "__invert__", "Truth.__invert__", defArgs s_Truth_invert, defBody s_Truth_invert, defScope s_Truth_invert, [], []⟩
def d_Truth_eq : He5.DefA := ⟨fun K => Hk.mt K "Truth" "__eq__", "__eq__", "Truth.__eq__", defArgs s_Truth_eq, defBody s_Truth_eq, defScope s_Truth_eq, [], []⟩
def d_Truth_ne : He5.DefA := ⟨fun K => Hk.mt K "Truth" "__ne__", "__ne__", "Truth.__ne__", defArgs s_Truth_ne, defBody s_Truth_ne, defScope s_Truth_ne, [], []⟩
def d_Truth_lt : He5.DefA := ⟨fun K => Hk.mt K "Truth" "__lt__", "__lt__", "Truth.__lt__", defArgs s_Truth_lt, defBody s_Truth_lt, defScope s_Truth_lt, [], []⟩
def d_Truth_le : He5.DefA := ⟨fun K => Hk.mt K "Truth" "__le__", "__le__", "Truth.__le__", defArgs s_Truth_le, defBody s_Truth_le, defScope s_Truth_le, [], []⟩
def d_Truth_bool : He5.DefA := ⟨fun K => Hk.mt K "Truth" "__bool__", "__bool__", "Truth.__bool__", defArgs s_Truth_bool, defBody s_Truth_bool, defScope s_Truth_bool, [], []⟩
def d_truth : He5.DefA := ⟨fun K => ga K "truth", "truth", "truth", defArgs s_truth, defBody s_truth, defScope s_truth, [], []⟩
def d_simple_value : He5.DefA := ⟨fun K => ga K "_simple_value", "_simple_value", "_simple_value", defArgs s_simple_value, defBody s_simple_value, defScope s_simple_value, [], []⟩
def d_quotient_value : He5.DefA := ⟨fun K => ga K "_quotient_value", "_quotient_value", "_quotient_value", defArgs s_quotient_value, defBody s_quotient_value, defScope s_quotient_value, [], []⟩
def d_atom : He5.DefA := ⟨fun K => ga K "atom", "atom", "atom", defArgs s_atom, defBody s_atom, defScope s_atom, [], []⟩
def d_only : He5.DefA := ⟨fun K => ga K "only", "only", "only", defArgs s_only, defBody s_only, defScope s_only, [], []⟩
def d_box : He5.DefA := ⟨fun K => ga K "_law_box", "_law_box", "_law_box", defArgs s_box, defBody s_box, defScope s_box, [], []⟩
def d_draw : He5.DefA := ⟨fun K => ga K "_law_draw", "_law_draw", "_law_draw", defArgs s_draw, defBody s_draw, defScope s_draw, [], []⟩
def d_row : He5.DefA := ⟨fun K => ga K "_law_row", "_law_row", "_law_row", defArgs s_row, defBody s_row, defScope s_row, [], []⟩
def d_condition : He5.DefA := ⟨fun K => ga K "_law_condition", "_law_condition", "_law_condition", defArgs s_condition, defBody s_condition, defScope s_condition, [], []⟩
def d_Latom : He5.DefA := ⟨fun K => ga K "_law_atom", "_law_atom", "_law_atom", defArgs s_Latom, defBody s_Latom, defScope s_Latom, [], []⟩
def d_Lonly : He5.DefA := ⟨fun K => ga K "_law_only", "_law_only", "_law_only", defArgs s_Lonly, defBody s_Lonly, defScope s_Lonly, [], []⟩
def d_Ltruth : He5.DefA := ⟨fun K => ga K "_law_truth", "_law_truth", "_law_truth", defArgs s_Ltruth, defBody s_Ltruth, defScope s_Ltruth, [], []⟩
def d_every : He5.DefA := ⟨fun K => ga K "_law_every", "_law_every", "_law_every", defArgs s_every, defBody s_every, defScope s_every, [], []⟩
def d_alike : He5.DefA := ⟨fun K => ga K "_law_alike", "_law_alike", "_law_alike", defArgs s_alike, defBody s_alike, defScope s_alike, [], []⟩
def d_wraps : He5.DefA := ⟨fun K => ga K "_law_wraps", "_law_wraps", "_law_wraps", defArgs s_wraps, defBody s_wraps, defScope s_wraps, [], []⟩
def d_wrapped : He5.DefA := ⟨fun K => ga K "_law_wrapped", "_law_wrapped", "_law_wrapped", defArgs s_wrapped, defBody s_wrapped, defScope s_wrapped, [], []⟩
def d_told : He5.DefA := ⟨fun K => ga K "_law_told", "_law_told", "_law_told", defArgs s_told, defBody s_told, defScope s_told, [], []⟩
def d_law : He5.DefA := ⟨fun K => ga K "law", "law", "law", defArgs s_law, defBody s_law, defScope s_law, [], []⟩
def fn : List He5.DefA := [d_ZeroDivisor_init, d_Truth_init, d_Truth_of, d_Truth_value, d_Truth_word, d_Truth_and, d_Truth_or, d_Truth_xor, d_Truth_invert, d_Truth_eq, d_Truth_ne, d_Truth_lt, d_Truth_le, d_Truth_bool, d_truth, d_simple_value, d_quotient_value, d_atom, d_only, d_box, d_draw, d_row, d_condition, d_Latom, d_Lonly, d_Ltruth, d_every, d_alike, d_wraps, d_wrapped, d_told, d_law]
def exl : List (PySem.W.Frag → Bool) := [
  fun K => (He.Fa.free "isinstance").ok K,
  fun K => (He.Fa.free "NotImplemented").ok K,
  fun K => (He.Fa.free "bool").ok K,
  fun K => (He.Fa.free "list").ok K,
  fun K => (He.Fa.free "len").ok K,
  fun K => (He.Fa.free "abs").ok K,
  fun K => (He.Fa.free "int").ok K,
  fun K => (He.Fa.free "range").ok K,
  fun K => (He.Fa.free "str").ok K,
  fun K => (He.Fa.free "tuple").ok K,
  fun K => (He.Fa.glo "_wall").ok K,
  fun K => (He.Fa.glo "BookError").ok K,
  fun K => (He.Fa.glo "Refusal").ok K,
  fun K => (He.Fa.glo "ZeroDivisor").ok K,
  fun K => (He.Fa.glo "WORDS").ok K,
  fun K => Hk.tupO K "WORDS",
  fun K => He.tupB K "WORDS" [.str "false", .str "unknown", .str "true"],
  fun K => (He.Fa.glo "MEANINGS").ok K,
  fun K => Hk.tupO K "MEANINGS",
  fun K => He.tupB K "MEANINGS" [.bl false, .non, .bl true],
  fun K => (He.Fa.glo "Truth").ok K,
  fun K => (He.Fa.glo "truth").ok K,
  fun K => (He.Fa.glo "_simple_value").ok K,
  fun K => (He.Fa.glo "_quotient_value").ok K,
  fun K => (He.Fa.glo "atom").ok K,
  fun K => (He.Fa.glo "only").ok K,
  fun K => (He.Fa.glo "_law_box").ok K,
  fun K => (He.Fa.glo "_law_draw").ok K,
  fun K => (He.Fa.glo "_law_row").ok K,
  fun K => (He.Fa.glo "_law_condition").ok K,
  fun K => (He.Fa.glo "_law_atom").ok K,
  fun K => (He.Fa.glo "_law_only").ok K,
  fun K => (He.Fa.glo "_law_truth").ok K,
  fun K => (He.Fa.glo "_law_every").ok K,
  fun K => (He.Fa.glo "_law_alike").ok K,
  fun K => (He.Fa.glo "_law_wraps").ok K,
  fun K => (He.Fa.glo "_law_wrapped").ok K,
  fun K => (He.Fa.glo "_law_told").ok K,
  fun K => (He.Fa.glo "law").ok K,
  fun K => Hk.kitB K "BookError" "BookError" true,
  fun K => (He.Fa.exm "BookError" "BookError" true).ok K,
  fun K => Hk.kitB K "BookError" "Refusal" false,
  fun K => (He.Fa.exm "BookError" "Refusal" false).ok K,
  fun K => Hk.kitB K "BookError" "ZeroDivisor" false,
  fun K => (He.Fa.exm "BookError" "ZeroDivisor" false).ok K,
  fun K => Hk.excCB K "BookError",
  fun K => Hk.excB K "BookError" [.type "ValueError", .type "Exception", .type "BaseException", .type "object"],
  fun K => Hk.kitB K "Refusal" "BookError" true,
  fun K => (He.Fa.exm "Refusal" "BookError" true).ok K,
  fun K => Hk.kitB K "Refusal" "Refusal" true,
  fun K => (He.Fa.exm "Refusal" "Refusal" true).ok K,
  fun K => Hk.kitB K "Refusal" "ZeroDivisor" false,
  fun K => (He.Fa.exm "Refusal" "ZeroDivisor" false).ok K,
  fun K => Hk.excCB K "Refusal",
  fun K => Hk.excB K "Refusal" [.type "ValueError", .type "Exception", .type "BaseException", .type "object"],
  fun K => Hk.kitB K "ZeroDivisor" "BookError" true,
  fun K => (He.Fa.exm "ZeroDivisor" "BookError" true).ok K,
  fun K => Hk.kitB K "ZeroDivisor" "Refusal" true,
  fun K => (He.Fa.exm "ZeroDivisor" "Refusal" true).ok K,
  fun K => Hk.kitB K "ZeroDivisor" "ZeroDivisor" true,
  fun K => (He.Fa.exm "ZeroDivisor" "ZeroDivisor" true).ok K,
  fun K => Hk.excCB K "ZeroDivisor",
  fun K => Hk.oexB K "ZeroDivisor",
  fun K => Hk.xinB K "ZeroDivisor",
  fun K => xfB K (ga K "ZeroDivisor"),
  fun K => Hk.noxB K "ZeroDivisor" "told",
  fun K => (He.Fa.cls "Truth").ok K,
  fun K => Hk.isiB K "Truth",
  fun K => Hk.kitB K "Truth" "Truth" true,
  fun K => (He.Fa.mkr "Truth").ok K,
  fun K => (He.Fa.noat "Truth" "rank").ok K,
  fun K => Hk.readB K "Truth",
  fun K => Hk.selfB K "Truth",
  fun K => Hk.statB K "Truth" "of",
  fun K => Hk.statB K "Truth" "from_word",
  fun K => Hk.propB K "Truth" "value",
  fun K => Hk.propB K "Truth" "word",
  fun K => (He.Fa.meth "Truth" "__and__").ok K,
  fun K => (He.Fa.meth "Truth" "__or__").ok K,
  fun K => (He.Fa.meth "Truth" "__xor__").ok K,
  fun K => (He.Fa.meth "Truth" "__invert__").ok K,
  fun K => (He.Fa.meth "Truth" "__eq__").ok K,
  fun K => (He.Fa.meth "Truth" "__ne__").ok K,
  fun K => (He.Fa.meth "Truth" "__lt__").ok K,
  fun K => (He.Fa.meth "Truth" "__le__").ok K,
  fun K => (He.Fa.meth "Truth" "__bool__").ok K,
  fun K => Hk.cvalB K "Truth" "COUNT" (.int 3)]
def ex (K : PySem.W.Frag) : Bool := exl.all fun f => f K
structure Txt (K : PySem.W.Frag) (mg : Str → Option Value) : Prop where
  says : Hk.SaysE ex fn K
  ns : Hk.NsAll K mg
section
variable {P : Program} {w : World} {K : PySem.W.Frag} {mg : Str → Option Value} {base : Heap}
theorem Txt.e (T : Txt K mg) (i : Nat) {f : PySem.W.Frag → Bool} (h : exl[i]? = some f) : f K = true := List.all_eq_true.mp (show (exl.all fun f => f K) = true from T.says.more) f (List.mem_of_getElem? h)
theorem Txt.d (T : Txt K mg) (i : Nat) {d : He5.DefA} (h : fn[i]? = some d) : ∃ fd, FunD K d.name d.qual d.params d.body d.scope (d.dvs K) (d.kws K) (d.at_ K) fd := T.says.def_ i h
theorem Txt.z_isinstance (T : Txt K mg) : mg "isinstance" = none := Hk.free_ok T.ns (T.e 0 (f := fun K => (He.Fa.free "isinstance").ok K) rfl)
theorem Txt.z_NotImplemented (T : Txt K mg) : mg "NotImplemented" = none := Hk.free_ok T.ns (T.e 1 (f := fun K => (He.Fa.free "NotImplemented").ok K) rfl)
theorem Txt.z_bool (T : Txt K mg) : mg "bool" = none := Hk.free_ok T.ns (T.e 2 (f := fun K => (He.Fa.free "bool").ok K) rfl)
theorem Txt.z_list (T : Txt K mg) : mg "list" = none := Hk.free_ok T.ns (T.e 3 (f := fun K => (He.Fa.free "list").ok K) rfl)
theorem Txt.z_len (T : Txt K mg) : mg "len" = none := Hk.free_ok T.ns (T.e 4 (f := fun K => (He.Fa.free "len").ok K) rfl)
theorem Txt.z_abs (T : Txt K mg) : mg "abs" = none := Hk.free_ok T.ns (T.e 5 (f := fun K => (He.Fa.free "abs").ok K) rfl)
theorem Txt.z_int (T : Txt K mg) : mg "int" = none := Hk.free_ok T.ns (T.e 6 (f := fun K => (He.Fa.free "int").ok K) rfl)
theorem Txt.z_range (T : Txt K mg) : mg "range" = none := Hk.free_ok T.ns (T.e 7 (f := fun K => (He.Fa.free "range").ok K) rfl)
theorem Txt.z_str (T : Txt K mg) : mg "str" = none := Hk.free_ok T.ns (T.e 8 (f := fun K => (He.Fa.free "str").ok K) rfl)
theorem Txt.z_tuple (T : Txt K mg) : mg "tuple" = none := Hk.free_ok T.ns (T.e 9 (f := fun K => (He.Fa.free "tuple").ok K) rfl)
theorem Txt.g__wall (T : Txt K mg) : mg "_wall" = some (.ref (ga K "_wall")) := Hk.glo_ok T.ns (T.e 10 (f := fun K => (He.Fa.glo "_wall").ok K) rfl)
theorem Txt.g_BookError (T : Txt K mg) : mg "BookError" = some (.ref (ga K "BookError")) := Hk.glo_ok T.ns (T.e 11 (f := fun K => (He.Fa.glo "BookError").ok K) rfl)
theorem Txt.g_Refusal (T : Txt K mg) : mg "Refusal" = some (.ref (ga K "Refusal")) := Hk.glo_ok T.ns (T.e 12 (f := fun K => (He.Fa.glo "Refusal").ok K) rfl)
theorem Txt.g_ZeroDivisor (T : Txt K mg) : mg "ZeroDivisor" = some (.ref (ga K "ZeroDivisor")) := Hk.glo_ok T.ns (T.e 13 (f := fun K => (He.Fa.glo "ZeroDivisor").ok K) rfl)
theorem Txt.g_WORDS (T : Txt K mg) : mg "WORDS" = some (.ref (ga K "WORDS")) := Hk.glo_ok T.ns (T.e 14 (f := fun K => (He.Fa.glo "WORDS").ok K) rfl)
theorem Txt.o_WORDS (T : Txt K mg) : ∀ H, tyV K "tuple" (.ref (ga K "WORDS")) H := Hk.tupO_ok (T.e 15 (f := fun K => Hk.tupO K "WORDS") rfl)
theorem Txt.t_WORDS (T : Txt K mg) : ∀ H, SqT K H (ga K "WORDS") [.str "false", .str "unknown", .str "true"] := fun H => He.tupB_ok (T.e 16 (f := fun K => He.tupB K "WORDS" [.str "false", .str "unknown", .str "true"]) rfl) H
theorem Txt.g_MEANINGS (T : Txt K mg) : mg "MEANINGS" = some (.ref (ga K "MEANINGS")) := Hk.glo_ok T.ns (T.e 17 (f := fun K => (He.Fa.glo "MEANINGS").ok K) rfl)
theorem Txt.o_MEANINGS (T : Txt K mg) : ∀ H, tyV K "tuple" (.ref (ga K "MEANINGS")) H := Hk.tupO_ok (T.e 18 (f := fun K => Hk.tupO K "MEANINGS") rfl)
theorem Txt.t_MEANINGS (T : Txt K mg) : ∀ H, SqT K H (ga K "MEANINGS") [.bl false, .non, .bl true] := fun H => He.tupB_ok (T.e 19 (f := fun K => He.tupB K "MEANINGS" [.bl false, .non, .bl true]) rfl) H
theorem Txt.g_Truth (T : Txt K mg) : mg "Truth" = some (.ref (ga K "Truth")) := Hk.glo_ok T.ns (T.e 20 (f := fun K => (He.Fa.glo "Truth").ok K) rfl)
theorem Txt.g_truth (T : Txt K mg) : mg "truth" = some (.ref (ga K "truth")) := Hk.glo_ok T.ns (T.e 21 (f := fun K => (He.Fa.glo "truth").ok K) rfl)
theorem Txt.g__simple_value (T : Txt K mg) : mg "_simple_value" = some (.ref (ga K "_simple_value")) := Hk.glo_ok T.ns (T.e 22 (f := fun K => (He.Fa.glo "_simple_value").ok K) rfl)
theorem Txt.g__quotient_value (T : Txt K mg) : mg "_quotient_value" = some (.ref (ga K "_quotient_value")) := Hk.glo_ok T.ns (T.e 23 (f := fun K => (He.Fa.glo "_quotient_value").ok K) rfl)
theorem Txt.g_atom (T : Txt K mg) : mg "atom" = some (.ref (ga K "atom")) := Hk.glo_ok T.ns (T.e 24 (f := fun K => (He.Fa.glo "atom").ok K) rfl)
theorem Txt.g_only (T : Txt K mg) : mg "only" = some (.ref (ga K "only")) := Hk.glo_ok T.ns (T.e 25 (f := fun K => (He.Fa.glo "only").ok K) rfl)
theorem Txt.g__law_box (T : Txt K mg) : mg "_law_box" = some (.ref (ga K "_law_box")) := Hk.glo_ok T.ns (T.e 26 (f := fun K => (He.Fa.glo "_law_box").ok K) rfl)
theorem Txt.g__law_draw (T : Txt K mg) : mg "_law_draw" = some (.ref (ga K "_law_draw")) := Hk.glo_ok T.ns (T.e 27 (f := fun K => (He.Fa.glo "_law_draw").ok K) rfl)
theorem Txt.g__law_row (T : Txt K mg) : mg "_law_row" = some (.ref (ga K "_law_row")) := Hk.glo_ok T.ns (T.e 28 (f := fun K => (He.Fa.glo "_law_row").ok K) rfl)
theorem Txt.g__law_condition (T : Txt K mg) : mg "_law_condition" = some (.ref (ga K "_law_condition")) := Hk.glo_ok T.ns (T.e 29 (f := fun K => (He.Fa.glo "_law_condition").ok K) rfl)
theorem Txt.g__law_atom (T : Txt K mg) : mg "_law_atom" = some (.ref (ga K "_law_atom")) := Hk.glo_ok T.ns (T.e 30 (f := fun K => (He.Fa.glo "_law_atom").ok K) rfl)
theorem Txt.g__law_only (T : Txt K mg) : mg "_law_only" = some (.ref (ga K "_law_only")) := Hk.glo_ok T.ns (T.e 31 (f := fun K => (He.Fa.glo "_law_only").ok K) rfl)
theorem Txt.g__law_truth (T : Txt K mg) : mg "_law_truth" = some (.ref (ga K "_law_truth")) := Hk.glo_ok T.ns (T.e 32 (f := fun K => (He.Fa.glo "_law_truth").ok K) rfl)
theorem Txt.g__law_every (T : Txt K mg) : mg "_law_every" = some (.ref (ga K "_law_every")) := Hk.glo_ok T.ns (T.e 33 (f := fun K => (He.Fa.glo "_law_every").ok K) rfl)
theorem Txt.g__law_alike (T : Txt K mg) : mg "_law_alike" = some (.ref (ga K "_law_alike")) := Hk.glo_ok T.ns (T.e 34 (f := fun K => (He.Fa.glo "_law_alike").ok K) rfl)
theorem Txt.g__law_wraps (T : Txt K mg) : mg "_law_wraps" = some (.ref (ga K "_law_wraps")) := Hk.glo_ok T.ns (T.e 35 (f := fun K => (He.Fa.glo "_law_wraps").ok K) rfl)
theorem Txt.g__law_wrapped (T : Txt K mg) : mg "_law_wrapped" = some (.ref (ga K "_law_wrapped")) := Hk.glo_ok T.ns (T.e 36 (f := fun K => (He.Fa.glo "_law_wrapped").ok K) rfl)
theorem Txt.g__law_told (T : Txt K mg) : mg "_law_told" = some (.ref (ga K "_law_told")) := Hk.glo_ok T.ns (T.e 37 (f := fun K => (He.Fa.glo "_law_told").ok K) rfl)
theorem Txt.g_law (T : Txt K mg) : mg "law" = some (.ref (ga K "law")) := Hk.glo_ok T.ns (T.e 38 (f := fun K => (He.Fa.glo "law").ok K) rfl)
theorem Txt.kt_BookError_BookError (T : Txt K mg) : PySem.W.kitOne K (.ref (ga K "BookError")) (.ref (ga K "BookError")) = some true := of_decide_eq_true (T.e 39 (f := fun K => Hk.kitB K "BookError" "BookError" true) rfl)
theorem Txt.k_BookError_BookError (T : Txt K mg) : PySem.W.exmOne K (.ref (ga K "BookError")) (.ref (ga K "BookError")) = some true := He.exm_ok (T.e 40 (f := fun K => (He.Fa.exm "BookError" "BookError" true).ok K) rfl)
theorem Txt.kt_BookError_Refusal (T : Txt K mg) : PySem.W.kitOne K (.ref (ga K "BookError")) (.ref (ga K "Refusal")) = some false := of_decide_eq_true (T.e 41 (f := fun K => Hk.kitB K "BookError" "Refusal" false) rfl)
theorem Txt.k_BookError_Refusal (T : Txt K mg) : PySem.W.exmOne K (.ref (ga K "BookError")) (.ref (ga K "Refusal")) = some false := He.exm_ok (T.e 42 (f := fun K => (He.Fa.exm "BookError" "Refusal" false).ok K) rfl)
theorem Txt.kt_BookError_ZeroDivisor (T : Txt K mg) : PySem.W.kitOne K (.ref (ga K "BookError")) (.ref (ga K "ZeroDivisor")) = some false := of_decide_eq_true (T.e 43 (f := fun K => Hk.kitB K "BookError" "ZeroDivisor" false) rfl)
theorem Txt.k_BookError_ZeroDivisor (T : Txt K mg) : PySem.W.exmOne K (.ref (ga K "BookError")) (.ref (ga K "ZeroDivisor")) = some false := He.exm_ok (T.e 44 (f := fun K => (He.Fa.exm "BookError" "ZeroDivisor" false).ok K) rfl)
theorem Txt.ec_BookError (T : Txt K mg) : ExcC K (ga K "BookError") := Hk.excC_ok (T.e 45 (f := fun K => Hk.excCB K "BookError") rfl)
theorem Txt.x_BookError (T : Txt K mg) : Hk.ExcF K "BookError" [.type "ValueError", .type "Exception", .type "BaseException", .type "object"] := Hk.exc_ok (T.e 46 (f := fun K => Hk.excB K "BookError" [.type "ValueError", .type "Exception", .type "BaseException", .type "object"]) rfl)
theorem Txt.kt_Refusal_BookError (T : Txt K mg) : PySem.W.kitOne K (.ref (ga K "Refusal")) (.ref (ga K "BookError")) = some true := of_decide_eq_true (T.e 47 (f := fun K => Hk.kitB K "Refusal" "BookError" true) rfl)
theorem Txt.k_Refusal_BookError (T : Txt K mg) : PySem.W.exmOne K (.ref (ga K "Refusal")) (.ref (ga K "BookError")) = some true := He.exm_ok (T.e 48 (f := fun K => (He.Fa.exm "Refusal" "BookError" true).ok K) rfl)
theorem Txt.kt_Refusal_Refusal (T : Txt K mg) : PySem.W.kitOne K (.ref (ga K "Refusal")) (.ref (ga K "Refusal")) = some true := of_decide_eq_true (T.e 49 (f := fun K => Hk.kitB K "Refusal" "Refusal" true) rfl)
theorem Txt.k_Refusal_Refusal (T : Txt K mg) : PySem.W.exmOne K (.ref (ga K "Refusal")) (.ref (ga K "Refusal")) = some true := He.exm_ok (T.e 50 (f := fun K => (He.Fa.exm "Refusal" "Refusal" true).ok K) rfl)
theorem Txt.kt_Refusal_ZeroDivisor (T : Txt K mg) : PySem.W.kitOne K (.ref (ga K "Refusal")) (.ref (ga K "ZeroDivisor")) = some false := of_decide_eq_true (T.e 51 (f := fun K => Hk.kitB K "Refusal" "ZeroDivisor" false) rfl)
theorem Txt.k_Refusal_ZeroDivisor (T : Txt K mg) : PySem.W.exmOne K (.ref (ga K "Refusal")) (.ref (ga K "ZeroDivisor")) = some false := He.exm_ok (T.e 52 (f := fun K => (He.Fa.exm "Refusal" "ZeroDivisor" false).ok K) rfl)
theorem Txt.ec_Refusal (T : Txt K mg) : ExcC K (ga K "Refusal") := Hk.excC_ok (T.e 53 (f := fun K => Hk.excCB K "Refusal") rfl)
theorem Txt.x_Refusal (T : Txt K mg) : Hk.ExcF K "Refusal" [.type "ValueError", .type "Exception", .type "BaseException", .type "object"] := Hk.exc_ok (T.e 54 (f := fun K => Hk.excB K "Refusal" [.type "ValueError", .type "Exception", .type "BaseException", .type "object"]) rfl)
theorem Txt.kt_ZeroDivisor_BookError (T : Txt K mg) : PySem.W.kitOne K (.ref (ga K "ZeroDivisor")) (.ref (ga K "BookError")) = some true := of_decide_eq_true (T.e 55 (f := fun K => Hk.kitB K "ZeroDivisor" "BookError" true) rfl)
theorem Txt.k_ZeroDivisor_BookError (T : Txt K mg) : PySem.W.exmOne K (.ref (ga K "ZeroDivisor")) (.ref (ga K "BookError")) = some true := He.exm_ok (T.e 56 (f := fun K => (He.Fa.exm "ZeroDivisor" "BookError" true).ok K) rfl)
theorem Txt.kt_ZeroDivisor_Refusal (T : Txt K mg) : PySem.W.kitOne K (.ref (ga K "ZeroDivisor")) (.ref (ga K "Refusal")) = some true := of_decide_eq_true (T.e 57 (f := fun K => Hk.kitB K "ZeroDivisor" "Refusal" true) rfl)
theorem Txt.k_ZeroDivisor_Refusal (T : Txt K mg) : PySem.W.exmOne K (.ref (ga K "ZeroDivisor")) (.ref (ga K "Refusal")) = some true := He.exm_ok (T.e 58 (f := fun K => (He.Fa.exm "ZeroDivisor" "Refusal" true).ok K) rfl)
theorem Txt.kt_ZeroDivisor_ZeroDivisor (T : Txt K mg) : PySem.W.kitOne K (.ref (ga K "ZeroDivisor")) (.ref (ga K "ZeroDivisor")) = some true := of_decide_eq_true (T.e 59 (f := fun K => Hk.kitB K "ZeroDivisor" "ZeroDivisor" true) rfl)
theorem Txt.k_ZeroDivisor_ZeroDivisor (T : Txt K mg) : PySem.W.exmOne K (.ref (ga K "ZeroDivisor")) (.ref (ga K "ZeroDivisor")) = some true := He.exm_ok (T.e 60 (f := fun K => (He.Fa.exm "ZeroDivisor" "ZeroDivisor" true).ok K) rfl)
theorem Txt.ec_ZeroDivisor (T : Txt K mg) : ExcC K (ga K "ZeroDivisor") := Hk.excC_ok (T.e 61 (f := fun K => Hk.excCB K "ZeroDivisor") rfl)
theorem Txt.oe_ZeroDivisor (T : Txt K mg) : OexC K (ga K "ZeroDivisor") := Hk.oex_ok (T.e 62 (f := fun K => Hk.oexB K "ZeroDivisor") rfl)
theorem Txt.xi_ZeroDivisor (T : Txt K mg) : Hk.XIn K "ZeroDivisor" := Hk.xin_ok (T.e 63 (f := fun K => Hk.xinB K "ZeroDivisor") rfl)
theorem Txt.xf_ZeroDivisor (T : Txt K mg) : XfC K (ga K "ZeroDivisor") := xfB_ok (T.e 64 (f := fun K => xfB K (ga K "ZeroDivisor")) rfl)
theorem Txt.nx_ZeroDivisor_told (T : Txt K mg) : PySem.W.findIn K (.ref (ga K "ZeroDivisor")) "told" = some none := He.eqO_ok (T.e 65 (f := fun K => Hk.noxB K "ZeroDivisor" "told") rfl)
theorem Txt.cl_Truth (T : Txt K mg) : Cls K (ga K "Truth") := He.cls_ok (T.e 66 (f := fun K => (He.Fa.cls "Truth").ok K) rfl)
theorem Txt.i_Truth (T : Txt K mg) : Hk.IsiF K (ga K "Truth") := Hk.isi_ok (T.e 67 (f := fun K => Hk.isiB K "Truth") rfl)
theorem Txt.kt_Truth_Truth (T : Txt K mg) : PySem.W.kitOne K (.ref (ga K "Truth")) (.ref (ga K "Truth")) = some true := of_decide_eq_true (T.e 68 (f := fun K => Hk.kitB K "Truth" "Truth" true) rfl)
theorem Txt.mk_Truth (T : Txt K mg) : Mk K (ga K "Truth") (Hk.mt K "Truth" "__init__") := He.mkr_ok (T.e 69 (f := fun K => (He.Fa.mkr "Truth").ok K) rfl)
theorem Txt.n_Truth_rank (T : Txt K mg) : NoAttr K (ga K "Truth") "rank" := He.noat_ok (T.e 70 (f := fun K => (He.Fa.noat "Truth" "rank").ok K) rfl)
theorem Txt.r_Truth (T : Txt K mg) : Hk.readB K "Truth" = true := (T.e 71 (f := fun K => Hk.readB K "Truth") rfl)
theorem Txt.sf_Truth (T : Txt K mg) : PySem.W.selfFirst K (ga K "Truth") = true := (T.e 72 (f := fun K => Hk.selfB K "Truth") rfl)
theorem Txt.st_Truth_of (T : Txt K mg) : Hk.statB K "Truth" "of" = true := (T.e 73 (f := fun K => Hk.statB K "Truth" "of") rfl)
theorem Txt.st_Truth_from_word (T : Txt K mg) : Hk.statB K "Truth" "from_word" = true := (T.e 74 (f := fun K => Hk.statB K "Truth" "from_word") rfl)
theorem Txt.p_Truth_value (T : Txt K mg) : PropOf K (ga K "Truth") "value" (Hk.mt K "Truth" "value") (Hk.pg K "Truth" "value") := Hk.prop_ok (T.e 75 (f := fun K => Hk.propB K "Truth" "value") rfl)
theorem Txt.p_Truth_word (T : Txt K mg) : PropOf K (ga K "Truth") "word" (Hk.mt K "Truth" "word") (Hk.pg K "Truth" "word") := Hk.prop_ok (T.e 76 (f := fun K => Hk.propB K "Truth" "word") rfl)
theorem Txt.m_Truth_and (T : Txt K mg) : Meth K (ga K "Truth") "__and__" (Hk.mt K "Truth" "__and__") := He.meth_ok (T.e 77 (f := fun K => (He.Fa.meth "Truth" "__and__").ok K) rfl)
theorem Txt.m_Truth_or (T : Txt K mg) : Meth K (ga K "Truth") "__or__" (Hk.mt K "Truth" "__or__") := He.meth_ok (T.e 78 (f := fun K => (He.Fa.meth "Truth" "__or__").ok K) rfl)
theorem Txt.m_Truth_xor (T : Txt K mg) : Meth K (ga K "Truth") "__xor__" (Hk.mt K "Truth" "__xor__") := He.meth_ok (T.e 79 (f := fun K => (He.Fa.meth "Truth" "__xor__").ok K) rfl)
theorem Txt.m_Truth_invert (T : Txt K mg) : Meth K (ga K "Truth") "__invert__" (Hk.mt K "Truth" "__invert__") := He.meth_ok (T.e 80 (f := fun K => (He.Fa.meth "Truth" "__invert__").ok K) rfl)
theorem Txt.m_Truth_eq (T : Txt K mg) : Meth K (ga K "Truth") "__eq__" (Hk.mt K "Truth" "__eq__") := He.meth_ok (T.e 81 (f := fun K => (He.Fa.meth "Truth" "__eq__").ok K) rfl)
theorem Txt.m_Truth_ne (T : Txt K mg) : Meth K (ga K "Truth") "__ne__" (Hk.mt K "Truth" "__ne__") := He.meth_ok (T.e 82 (f := fun K => (He.Fa.meth "Truth" "__ne__").ok K) rfl)
theorem Txt.m_Truth_lt (T : Txt K mg) : Meth K (ga K "Truth") "__lt__" (Hk.mt K "Truth" "__lt__") := He.meth_ok (T.e 83 (f := fun K => (He.Fa.meth "Truth" "__lt__").ok K) rfl)
theorem Txt.m_Truth_le (T : Txt K mg) : Meth K (ga K "Truth") "__le__" (Hk.mt K "Truth" "__le__") := He.meth_ok (T.e 84 (f := fun K => (He.Fa.meth "Truth" "__le__").ok K) rfl)
theorem Txt.m_Truth_bool (T : Txt K mg) : Meth K (ga K "Truth") "__bool__" (Hk.mt K "Truth" "__bool__") := He.meth_ok (T.e 85 (f := fun K => (He.Fa.meth "Truth" "__bool__").ok K) rfl)
theorem Txt.v_Truth_COUNT (T : Txt K mg) : ∃ u, ClX.CVal K (ga K "Truth") (.type "type") "COUNT" (.int 3) u := Hk.cval_ok (T.e 86 (f := fun K => Hk.cvalB K "Truth" "COUNT" (.int 3)) rfl)
theorem Txt.f_ZeroDivisor_init (T : Txt K mg) : ∃ fd, FunD K "__init__" "ZeroDivisor.__init__" (defArgs s_ZeroDivisor_init) (defBody s_ZeroDivisor_init) (defScope s_ZeroDivisor_init) [] [] (Hk.mt K "ZeroDivisor" "__init__") fd := T.d 0 (d := d_ZeroDivisor_init) rfl
theorem Txt.f_Truth_init (T : Txt K mg) : ∃ fd, FunD K "__init__" "Truth.__init__" (defArgs s_Truth_init) (defBody s_Truth_init) (defScope s_Truth_init) [] [] (Hk.mt K "Truth" "__init__") fd := T.d 1 (d := d_Truth_init) rfl
theorem Txt.f_Truth_of (T : Txt K mg) : ∃ fd, FunD K "of" "Truth.of" (defArgs s_Truth_of) (defBody s_Truth_of) (defScope s_Truth_of) [] [] (Hk.sg K "Truth" "of") fd := T.d 2 (d := d_Truth_of) rfl
theorem Txt.f_Truth_value (T : Txt K mg) : ∃ fd, FunD K "value" "Truth.value" (defArgs s_Truth_value) (defBody s_Truth_value) (defScope s_Truth_value) [] [] (Hk.pg K "Truth" "value") fd := T.d 3 (d := d_Truth_value) rfl
theorem Txt.f_Truth_word (T : Txt K mg) : ∃ fd, FunD K "word" "Truth.word" (defArgs s_Truth_word) (defBody s_Truth_word) (defScope s_Truth_word) [] [] (Hk.pg K "Truth" "word") fd := T.d 4 (d := d_Truth_word) rfl
theorem Txt.f_Truth_and (T : Txt K mg) : ∃ fd, FunD K "__and__" "Truth.__and__" (defArgs s_Truth_and) (defBody s_Truth_and) (defScope s_Truth_and) [] [] (Hk.mt K "Truth" "__and__") fd := T.d 5 (d := d_Truth_and) rfl
theorem Txt.f_Truth_or (T : Txt K mg) : ∃ fd, FunD K "__or__" "Truth.__or__" (defArgs s_Truth_or) (defBody s_Truth_or) (defScope s_Truth_or) [] [] (Hk.mt K "Truth" "__or__") fd := T.d 6 (d := d_Truth_or) rfl
theorem Txt.f_Truth_xor (T : Txt K mg) : ∃ fd, FunD K "__xor__" "Truth.__xor__" (defArgs s_Truth_xor) (defBody s_Truth_xor) (defScope s_Truth_xor) [] [] (Hk.mt K "Truth" "__xor__") fd := T.d 7 (d := d_Truth_xor) rfl
theorem Txt.f_Truth_invert (T : Txt K mg) : ∃ fd, FunD K "__invert__" "Truth.__invert__" (defArgs s_Truth_invert) (defBody s_Truth_invert) (defScope s_Truth_invert) [] [] (Hk.mt K "Truth" "__invert__") fd := T.d 8 (d := d_Truth_invert) rfl
theorem Txt.f_Truth_eq (T : Txt K mg) : ∃ fd, FunD K "__eq__" "Truth.__eq__" (defArgs s_Truth_eq) (defBody s_Truth_eq) (defScope s_Truth_eq) [] [] (Hk.mt K "Truth" "__eq__") fd := T.d 9 (d := d_Truth_eq) rfl
theorem Txt.f_Truth_ne (T : Txt K mg) : ∃ fd, FunD K "__ne__" "Truth.__ne__" (defArgs s_Truth_ne) (defBody s_Truth_ne) (defScope s_Truth_ne) [] [] (Hk.mt K "Truth" "__ne__") fd := T.d 10 (d := d_Truth_ne) rfl
theorem Txt.f_Truth_lt (T : Txt K mg) : ∃ fd, FunD K "__lt__" "Truth.__lt__" (defArgs s_Truth_lt) (defBody s_Truth_lt) (defScope s_Truth_lt) [] [] (Hk.mt K "Truth" "__lt__") fd := T.d 11 (d := d_Truth_lt) rfl
theorem Txt.f_Truth_le (T : Txt K mg) : ∃ fd, FunD K "__le__" "Truth.__le__" (defArgs s_Truth_le) (defBody s_Truth_le) (defScope s_Truth_le) [] [] (Hk.mt K "Truth" "__le__") fd := T.d 12 (d := d_Truth_le) rfl
theorem Txt.f_Truth_bool (T : Txt K mg) : ∃ fd, FunD K "__bool__" "Truth.__bool__" (defArgs s_Truth_bool) (defBody s_Truth_bool) (defScope s_Truth_bool) [] [] (Hk.mt K "Truth" "__bool__") fd := T.d 13 (d := d_Truth_bool) rfl
theorem Txt.f_truth (T : Txt K mg) : ∃ fd, FunD K "truth" "truth" (defArgs s_truth) (defBody s_truth) (defScope s_truth) [] [] (ga K "truth") fd := T.d 14 (d := d_truth) rfl
theorem Txt.f_simple_value (T : Txt K mg) : ∃ fd, FunD K "_simple_value" "_simple_value" (defArgs s_simple_value) (defBody s_simple_value) (defScope s_simple_value) [] [] (ga K "_simple_value") fd := T.d 15 (d := d_simple_value) rfl
theorem Txt.f_quotient_value (T : Txt K mg) : ∃ fd, FunD K "_quotient_value" "_quotient_value" (defArgs s_quotient_value) (defBody s_quotient_value) (defScope s_quotient_value) [] [] (ga K "_quotient_value") fd := T.d 16 (d := d_quotient_value) rfl
theorem Txt.f_atom (T : Txt K mg) : ∃ fd, FunD K "atom" "atom" (defArgs s_atom) (defBody s_atom) (defScope s_atom) [] [] (ga K "atom") fd := T.d 17 (d := d_atom) rfl
theorem Txt.f_only (T : Txt K mg) : ∃ fd, FunD K "only" "only" (defArgs s_only) (defBody s_only) (defScope s_only) [] [] (ga K "only") fd := T.d 18 (d := d_only) rfl
theorem Txt.f_box (T : Txt K mg) : ∃ fd, FunD K "_law_box" "_law_box" (defArgs s_box) (defBody s_box) (defScope s_box) [] [] (ga K "_law_box") fd := T.d 19 (d := d_box) rfl
theorem Txt.f_draw (T : Txt K mg) : ∃ fd, FunD K "_law_draw" "_law_draw" (defArgs s_draw) (defBody s_draw) (defScope s_draw) [] [] (ga K "_law_draw") fd := T.d 20 (d := d_draw) rfl
theorem Txt.f_row (T : Txt K mg) : ∃ fd, FunD K "_law_row" "_law_row" (defArgs s_row) (defBody s_row) (defScope s_row) [] [] (ga K "_law_row") fd := T.d 21 (d := d_row) rfl
theorem Txt.f_condition (T : Txt K mg) : ∃ fd, FunD K "_law_condition" "_law_condition" (defArgs s_condition) (defBody s_condition) (defScope s_condition) [] [] (ga K "_law_condition") fd := T.d 22 (d := d_condition) rfl
theorem Txt.f_Latom (T : Txt K mg) : ∃ fd, FunD K "_law_atom" "_law_atom" (defArgs s_Latom) (defBody s_Latom) (defScope s_Latom) [] [] (ga K "_law_atom") fd := T.d 23 (d := d_Latom) rfl
theorem Txt.f_Lonly (T : Txt K mg) : ∃ fd, FunD K "_law_only" "_law_only" (defArgs s_Lonly) (defBody s_Lonly) (defScope s_Lonly) [] [] (ga K "_law_only") fd := T.d 24 (d := d_Lonly) rfl
theorem Txt.f_Ltruth (T : Txt K mg) : ∃ fd, FunD K "_law_truth" "_law_truth" (defArgs s_Ltruth) (defBody s_Ltruth) (defScope s_Ltruth) [] [] (ga K "_law_truth") fd := T.d 25 (d := d_Ltruth) rfl
theorem Txt.f_every (T : Txt K mg) : ∃ fd, FunD K "_law_every" "_law_every" (defArgs s_every) (defBody s_every) (defScope s_every) [] [] (ga K "_law_every") fd := T.d 26 (d := d_every) rfl
theorem Txt.f_alike (T : Txt K mg) : ∃ fd, FunD K "_law_alike" "_law_alike" (defArgs s_alike) (defBody s_alike) (defScope s_alike) [] [] (ga K "_law_alike") fd := T.d 27 (d := d_alike) rfl
theorem Txt.f_wraps (T : Txt K mg) : ∃ fd, FunD K "_law_wraps" "_law_wraps" (defArgs s_wraps) (defBody s_wraps) (defScope s_wraps) [] [] (ga K "_law_wraps") fd := T.d 28 (d := d_wraps) rfl
theorem Txt.f_wrapped (T : Txt K mg) : ∃ fd, FunD K "_law_wrapped" "_law_wrapped" (defArgs s_wrapped) (defBody s_wrapped) (defScope s_wrapped) [] [] (ga K "_law_wrapped") fd := T.d 29 (d := d_wrapped) rfl
theorem Txt.f_told (T : Txt K mg) : ∃ fd, FunD K "_law_told" "_law_told" (defArgs s_told) (defBody s_told) (defScope s_told) [] [] (ga K "_law_told") fd := T.d 30 (d := d_told) rfl
theorem Txt.f_law (T : Txt K mg) : ∃ fd, FunD K "law" "law" (defArgs s_law) (defBody s_law) (defScope s_law) [] [] (ga K "law") fd := T.d 31 (d := d_law) rfl
end
/-! ### the head -/
abbrev R : PySem.W.OpenRow := PySem.W.OpenLaw.row PySem.Challenge.rw_bookstogether_k03_truth_of_conditions
abbrev hk : PySem.W.Hook := Hk.hookE 5 ex fn
def ob (s : PySem.W.SharedT) : He.AlD := Hk.obsEG 5 ex fn (HandSHeadRun.getT s)
theorem ob_eq (s : PySem.W.SharedT) : ob s = hk.obs s.abs := Hk.obsEG_eq (HandSHeadRun.getT_eq s)
def loose : List PySem.Str := ["_wall", "BookError", "Refusal", "ZeroDivisor", "WORDS", "MEANINGS", "Truth", "truth", "_simple_value", "_quotient_value", "atom", "only", "_law_box", "_law_draw", "_law_row", "_law_condition", "_law_atom", "_law_only", "_law_truth", "_law_every", "_law_alike", "_law_wraps", "_law_wrapped", "_law_told"]
set_option maxHeartbeats 0 in
theorem run (w : World) : HandSHeadRun.RunEq R (PySem.W.view R.prog [28]) hk ob 6000 loose w := by
  intro os
  kernel_rfl
end K03

end
section
set_option Elab.async false
set_option linter.all false
set_option maxRecDepth 100000
set_option maxHeartbeats 4000000
/-! ### readings by themselves -/
open PySem PySem.Spec PyProof.Rows L2 in
local macro_rules | `(tactic| k_allIn) => `(tactic| first | (with_reducible assumption) | exact upd_same | (refine Hk.same_upd (by assumption) _ _ ?_; k_allIn) | (refine (upd_ne (by first | assumption | exact Ne.symm (by assumption))).trans ?_; k_allIn))
open PySem PySem.Spec PyProof.Rows L2 in
local macro_rules | `(tactic| k_memK) => `(tactic| first | (with_reducible exact rfl) | (with_reducible assumption) | exact rfl | exact Hk.lk_hd | k_allIn | exact Or.inl (Or.inl (by k_allIn)) | exact ⟨_, rfl⟩ | exact Or.inl ⟨rfl, _, by assumption⟩ | exact Or.inl ⟨rfl, _, Or.inl (Or.inl (by k_allIn))⟩ | exact (fun _ h => h) | exact ClsV.own _ | exact ClsV.ty _ | exact Or.inl ‹_› | exact Or.inr ‹_› | lcg_src | exact Or.inl ⟨by omega, by omega⟩ | exact Or.inr ⟨by omega, by omega⟩ | exact ⟨by omega, by omega⟩ | exact Nat.le_of_lt (small1000 (by simp)) | exact small1000 (by simp) | exact Nat.le_of_lt (small1000 (by omega)) | exact small1000 (by omega) | omega | assumption | decide +kernel)
local macro_rules | `(tactic| lcg_sub) => `(tactic| (refine And.intro ?_ ?_; k_memK))
local macro_rules | `(tactic| k_subL) => `(tactic| (repeat (first | (apply Exists.intro) | lcg_sub | (refine Or.inl ⟨_, rfl, ?_⟩) | (refine Or.inr ⟨_, rfl, ?_⟩))))
namespace K03
open PySem PySem.Spec PyProof.Rows L2
open He (ga ma ba)
/-! ### Truth -/
/-- a truth value of rank r stands at a -/
def TruthAt (K : PySem.W.Frag) (H : Hp) (a : Addr) (r : Int) : Prop := ∃ dx, H a = some (.ins (ga K "Truth") dx [("rank", .int r)])
def R3 (r : Int) : Prop := r = 0 ∨ r = 1 ∨ r = 2
def meaning (r : Int) : V := if r = 0 then .bl false else if r = 1 then .non else .bl true
def wordS (r : Int) : Str := if r = 0 then "false" else if r = 1 then "unknown" else "true"
theorem TruthAt.mono {K : PySem.W.Frag} {H H' : Hp} {a : Addr} {r : Int} (h : TruthAt K H a r) (s : Same H H') : TruthAt K H' a r := let ⟨dx, e⟩ := h; ⟨dx, s _ _ e⟩
/-- a new truth value of rank r is handed back -/
def gives (K : PySem.W.Frag) (r : Int) (H : Hp) (Q : VK) : Prop := ∀ a H', Same H H' → TruthAt K H' a r → Q (.ref a) H'
def sp_Truth_init (K : PySem.W.Frag) : Sp := fun vs H Q _ => ∃ p dx r, vs = [.ref p, .int r] ∧ H p = some (.ins (ga K "Truth") dx []) ∧ Q .non (upd H p (.ins (ga K "Truth") dx [("rank", .int r)]))
def sp_Truth_value (K : PySem.W.Frag) : Sp := fun vs H Q _ => ∃ a r, vs = [.ref a] ∧ TruthAt K H a r ∧ R3 r ∧ Q (meaning r) H
def sp_Truth_word (K : PySem.W.Frag) : Sp := fun vs H Q _ => ∃ a r, vs = [.ref a] ∧ TruthAt K H a r ∧ R3 r ∧ Q (.str (wordS r)) H
def sp_Truth_and (K : PySem.W.Frag) : Sp := fun vs H Q _ => ∃ a b r t, vs = [.ref a, .ref b] ∧ TruthAt K H a r ∧ TruthAt K H b t ∧ ∀ c, TruthAt K H c (if t < r then t else r) → Q (.ref c) H
def sp_Truth_or (K : PySem.W.Frag) : Sp := fun vs H Q _ => ∃ a b r t, vs = [.ref a, .ref b] ∧ TruthAt K H a r ∧ TruthAt K H b t ∧ ∀ c, TruthAt K H c (if t > r then t else r) → Q (.ref c) H
def differ (r t : Int) : Int := if r = 1 ∨ t = 1 then 1 else if r = t then 0 else 2
def sp_Truth_xor (K : PySem.W.Frag) : Sp := fun vs H Q _ => ∃ a b r t, vs = [.ref a, .ref b] ∧ TruthAt K H a r ∧ TruthAt K H b t ∧ R3 r ∧ R3 t ∧ gives K (differ r t) H Q
def sp_Truth_invert (K : PySem.W.Frag) : Sp := fun vs H Q _ => ∃ a r, vs = [.ref a] ∧ TruthAt K H a r ∧ gives K (2 - r) H Q
def sp_Truth_cmp (K : PySem.W.Frag) (f : Int → Int → Bool) : Sp := fun vs H Q _ => ∃ a b r t, vs = [.ref a, .ref b] ∧ TruthAt K H a r ∧ TruthAt K H b t ∧ Q (.bl (f r t)) H
def sp_Truth_bool (K : PySem.W.Frag) : Sp := fun vs H Q _ => ∃ a r, vs = [.ref a] ∧ TruthAt K H a r ∧ Q (.bl (decide (r = 2))) H
def rankOf : V → Option Int
  | .non => some 1
  | .bl b => some (if b then 2 else 0)
  | _ => none
def sp_Truth_of (K : PySem.W.Frag) : Sp := fun vs H Q _ => ∃ v r, vs = [v] ∧ rankOf v = some r ∧ gives K r H Q
section
variable {P : Program} {w : World} {K : PySem.W.Frag} {mg : Str → Option Value} {base : Heap}
theorem mk_truth {r : Int} {H : Hp} {Q : VK} {E : XK} (q : gives K r H Q) : ∀ x dx, H x = none → H dx = none → dx ≠ x → sp_Truth_init K [.ref x, .int r] (upd (upd H dx (.own x)) x (.ins (ga K "Truth") dx [])) (fun v H' => v = .non ∧ Q (.ref x) H') E := by
  intro x dx nx ndx ne
  refine ⟨x, dx, r, rfl, upd_same, rfl, q x _ (fun b o e => ?_) ⟨dx, upd_same⟩⟩
  rw [upd_ne (ne_of_none e nx), upd_ne (ne_of_none e nx), upd_ne (ne_of_none e ndx)]
  exact e
theorem ok_Truth_init (T : Txt K mg) : Hk.AOk P w K mg base CX0 1 (Hk.mt K "Truth" "__init__") ["self", "rank"] (sp_Truth_init K) := by
  refine Hk.mkA T.f_Truth_init (fun _ _ _ _ _ _ us hl => match us, hl with | [_, _], _ => rfl) sc_Truth_init (fun vs H Q E h => ?_) (fun cdv A outer s H vs Q E hr h => ?_)
  · obtain ⟨p, dx, r, rfl, _⟩ := h
    rfl
  · obtain ⟨p, dx, r, rfl, hp, q⟩ := h
    have hc := T.cl_Truth
    have hn := T.n_Truth_rank
    refine ⟨_, (pss_one (ps_fld (pv 0) (pv 1) rfl)), ?_⟩
    k_subL
    exact q
theorem ok_Truth_and (T : Txt K mg) : Hk.AOk P w K mg base CX0 1 (Hk.mt K "Truth" "__and__") ["self", "other"] (sp_Truth_and K) := by
  refine Hk.mkA T.f_Truth_and (fun _ _ _ _ _ _ us hl => match us, hl with | [_, _], _ => rfl) sc_Truth_and (fun vs H Q E h => ?_) (fun cdv A outer s H vs Q E hr h => ?_)
  · obtain ⟨a, b, r, t, rfl, _⟩ := h
    rfl
  · obtain ⟨a, b, r, t, rfl, ha', hb', q⟩ := h
    obtain ⟨⟨dx, ha⟩, ⟨dy, hb⟩⟩ := And.intro (id ha') (id hb')
    have hc := T.cl_Truth
    have hn := T.n_Truth_rank
    refine ⟨_, (pss_one (ps_ret (pe_ifExp (pt_cmpR op_lt (pe_fld (pv 0) rfl) (pe_fld (pv 1) rfl) (nomark _)) (pv 0) (pv 1)))), ?_⟩
    k_subL
    refine ite2 (fun e => ?_) (fun e => ?_)
    all_goals have e' := e; rw [decide_eq_true_eq] at e'
    · k_subL
      refine q a ?_
      rw [if_neg (by omega)]
      exact ha'
    · k_subL
      refine q b ?_
      by_cases e2 : t < r
      · rw [if_pos e2]; exact hb'
      · rw [if_neg e2]
        obtain rfl : r = t := by omega
        exact hb'
theorem ok_Truth_or (T : Txt K mg) : Hk.AOk P w K mg base CX0 1 (Hk.mt K "Truth" "__or__") ["self", "other"] (sp_Truth_or K) := by
  refine Hk.mkA T.f_Truth_or (fun _ _ _ _ _ _ us hl => match us, hl with | [_, _], _ => rfl) sc_Truth_or (fun vs H Q E h => ?_) (fun cdv A outer s H vs Q E hr h => ?_)
  · obtain ⟨a, b, r, t, rfl, _⟩ := h
    rfl
  · obtain ⟨a, b, r, t, rfl, ha', hb', q⟩ := h
    obtain ⟨⟨dx, ha⟩, ⟨dy, hb⟩⟩ := And.intro (id ha') (id hb')
    have hc := T.cl_Truth
    have hn := T.n_Truth_rank
    refine ⟨_, (pss_one (ps_ret (pe_ifExp (pt_cmpR op_gt (pe_fld (pv 0) rfl) (pe_fld (pv 1) rfl) (nomark _)) (pv 0) (pv 1)))), ?_⟩
    k_subL
    refine ite2 (fun e => ?_) (fun e => ?_)
    all_goals have e' := e; rw [decide_eq_true_eq] at e'
    · k_subL
      refine q a ?_
      rw [if_neg (by omega)]
      exact ha'
    · k_subL
      refine q b ?_
      by_cases e2 : t > r
      · rw [if_pos e2]; exact hb'
      · rw [if_neg e2]
        obtain rfl : r = t := by omega
        exact hb'
theorem ok_Truth_of (T : Txt K mg) : Hk.AOk P w K mg base CX0 3 (Hk.sg K "Truth" "of") ["value"] (sp_Truth_of K) := by
  refine Hk.mkA T.f_Truth_of (fun _ _ _ _ _ _ us hl => match us, hl with | [_], _ => rfl) sc_Truth_of (fun vs H Q E h => ?_) (fun cdv A outer s H vs Q E hr h => ?_)
  · obtain ⟨v, r, rfl, _⟩ := h
    rfl
  · obtain ⟨v, r, rfl, hv, q⟩ := h
    refine ⟨_, (pss_cons (ps_if (pt_cmpR op_isN (pv 0) pe_non (nomark _))
        (pss_one (ps_ret (Hk.pe_mk T.mk_Truth (ok_Truth_init T) T.g_Truth (hr.mono (by decide)) pass0 (pa_cons pe_int pa_nil))))
        pss_nil)
      (pss_one (ps_ret (Hk.pe_mk T.mk_Truth (ok_Truth_init T) T.g_Truth (hr.mono (by decide)) pass0 (pa_cons (pe_ifExp (pt_val (pv 0)) pe_int pe_int) pa_nil))))), ?_⟩
    k_subL
    cases v with
    | non =>
      cases hv
      refine iteT ?_
      exact mk_truth q
    | bl b =>
      refine iteF ?_
      k_subL
      cases b with
      | true =>
        cases hv
        refine iteT ?_
        exact mk_truth q
      | false =>
        cases hv
        refine iteF ?_
        exact mk_truth q
    | _ => cases hv
end
end K03

end
section
set_option Elab.async false
set_option linter.all false
set_option maxRecDepth 100000
set_option maxHeartbeats 4000000
/-! ### readings by themselves -/
open PySem PySem.Spec PyProof.Rows L2 in
local macro_rules | `(tactic| k_allIn) => `(tactic| first | (with_reducible assumption) | exact upd_same | (refine Hk.same_upd (by assumption) _ _ ?_; k_allIn) | (refine (upd_ne (by first | assumption | exact Ne.symm (by assumption))).trans ?_; k_allIn))
open PySem PySem.Spec PyProof.Rows L2 in
local macro_rules | `(tactic| k_memK) => `(tactic| first | (with_reducible exact rfl) | (with_reducible assumption) | exact rfl | exact Hk.lk_hd | k_allIn | exact Or.inl (Or.inl (by k_allIn)) | exact ⟨_, rfl⟩ | exact Or.inl ⟨rfl, _, by assumption⟩ | exact Or.inl ⟨rfl, _, Or.inl (Or.inl (by k_allIn))⟩ | exact (fun _ h => h) | exact ClsV.own _ | exact ClsV.ty _ | exact Or.inl ‹_› | exact Or.inr ‹_› | lcg_src | exact Or.inl ⟨by omega, by omega⟩ | exact Or.inr ⟨by omega, by omega⟩ | exact ⟨by omega, by omega⟩ | exact Nat.le_of_lt (small1000 (by simp)) | exact small1000 (by simp) | exact Nat.le_of_lt (small1000 (by omega)) | exact small1000 (by omega) | omega | assumption | decide +kernel)
local macro_rules | `(tactic| lcg_sub) => `(tactic| (refine And.intro ?_ ?_; k_memK))
local macro_rules | `(tactic| k_subL) => `(tactic| (repeat (first | (apply Exists.intro) | lcg_sub | (refine Or.inl ⟨_, rfl, ?_⟩) | (refine Or.inr ⟨_, rfl, ?_⟩))))
namespace K03
open PySem PySem.Spec PyProof.Rows L2
open He (ga ma ba)
/-! ### conditions and rows as data -/
inductive Cd where
  | eql (c k : Int)
  | lss (c k : Int)
  | unk (c : Int)
  | alw
  | quo (c d k : Int)
  | neg (x : Cd)
  | and (x y : Cd)
  | or (x y : Cd)
def Cd.dep : Cd → Nat
  | .neg x => x.dep + 1
  | .and x y => max x.dep y.dep + 1
  | .or x y => max x.dep y.dep + 1
  | _ => 1
def Cd.good : Cd → Prop
  | .eql c _ => 0 ≤ c ∧ c < 3
  | .lss c _ => 0 ≤ c ∧ c < 3
  | .unk c => 0 ≤ c ∧ c < 3
  | .alw => True
  | .quo c d _ => (0 ≤ c ∧ c < 3) ∧ (0 ≤ d ∧ d < 3)
  | .neg x => x.good
  | .and x y => x.good ∧ y.good
  | .or x y => x.good ∧ y.good
/-- the condition stands at v -/
def CdAt (K : PySem.W.Frag) (H : Hp) : Cd → V → Prop
  | .eql c k, v => ∃ a, v = .ref a ∧ SqT K H a [.str "equal", .int c, .int k]
  | .lss c k, v => ∃ a, v = .ref a ∧ SqT K H a [.str "below", .int c, .int k]
  | .unk c, v => ∃ a, v = .ref a ∧ SqT K H a [.str "unknown", .int c]
  | .alw, v => ∃ a, v = .ref a ∧ SqT K H a [.str "always"]
  | .quo c d k, v => ∃ a, v = .ref a ∧ SqT K H a [.str "quotient", .int c, .int d, .int k]
  | .neg x, v => ∃ a u, v = .ref a ∧ SqT K H a [.str "not", u] ∧ CdAt K H x u
  | .and x y, v => ∃ a u t, v = .ref a ∧ SqT K H a [.str "and", u, t] ∧ CdAt K H x u ∧ CdAt K H y t
  | .or x y, v => ∃ a u t, v = .ref a ∧ SqT K H a [.str "or", u, t] ∧ CdAt K H x u ∧ CdAt K H y t
theorem SqT.mono {K : PySem.W.Frag} {H H' : Hp} {a : Addr} {xs : List V} (h : SqT K H a xs) (s : Same H H') : SqT K H' a xs := by
  rcases h with (h | ⟨o, h⟩) | h
  · exact .inl (.inl (s _ _ h))
  · exact .inl (.inr ⟨o, s _ _ h⟩)
  · exact .inr h
theorem CdAt.mono {K : PySem.W.Frag} {H H' : Hp} (s : Same H H') : ∀ {c : Cd} {v : V}, CdAt K H c v → CdAt K H' c v
  | .eql .., _, ⟨a, e, h⟩ => ⟨a, e, SqT.mono h s⟩
  | .lss .., _, ⟨a, e, h⟩ => ⟨a, e, SqT.mono h s⟩
  | .unk .., _, ⟨a, e, h⟩ => ⟨a, e, SqT.mono h s⟩
  | .alw, _, ⟨a, e, h⟩ => ⟨a, e, SqT.mono h s⟩
  | .quo .., _, ⟨a, e, h⟩ => ⟨a, e, SqT.mono h s⟩
  | .neg _, _, ⟨a, u, e, h, k⟩ => ⟨a, u, e, SqT.mono h s, CdAt.mono s k⟩
  | .and .., _, ⟨a, u, t, e, h, k, l⟩ => ⟨a, u, t, e, SqT.mono h s, CdAt.mono s k, CdAt.mono s l⟩
  | .or .., _, ⟨a, u, t, e, h, k, l⟩ => ⟨a, u, t, e, SqT.mono h s, CdAt.mono s k, CdAt.mono s l⟩
/-- a cell: a number or unknown -/
def cellV : Option Int → V
  | none => .non
  | some i => .int i
def low (r : List (Option Int)) : Prop := ∀ j, some j ∈ r → 0 ≤ j ∧ j ≤ 2
def RowAt (K : PySem.W.Frag) (H : Hp) (r : List (Option Int)) (v : V) : Prop := ∃ a, v = .ref a ∧ SqT K H a (r.map cellV) ∧ r.length = 3 ∧ low r
theorem RowAt.mono {K : PySem.W.Frag} {H H' : Hp} {r : List (Option Int)} {v : V} (h : RowAt K H r v) (s : Same H H') : RowAt K H' r v :=
  let ⟨a, e, h, l⟩ := h
  ⟨a, e, SqT.mono h s, l⟩
def cell (r : List (Option Int)) (c : Int) : Option Int := (r[c.toNat]?).getD none
theorem cell_low {r : List (Option Int)} {c j : Int} (h : low r) (e : cell r c = some j) : 0 ≤ j ∧ j ≤ 2 := by
  unfold cell at e
  cases z : r[c.toNat]? with
  | none => rw [z] at e; cases e
  | some o =>
    rw [z] at e
    have e' : o = some j := e
    subst e'
    exact h j (List.mem_of_getElem? z)
theorem row_at {r : List (Option Int)} {c : Int} (h : r.length = 3) (h0 : 0 ≤ c) (h1 : c < 3) : atI (r.map cellV) c = some (cellV (cell r c)) := by
  have e : c = ((c.toNat : Nat) : Int) := by omega
  have l : c.toNat < r.length := by omega
  have z : (r.map cellV)[c.toNat]? = some (cellV (cell r c)) := by
    unfold cell
    rw [List.getElem?_map, List.getElem?_eq_getElem l]
    rfl
  have y := atI_nat z
  rw [← e] at y
  exact y
/-- what a condition is at a row: 0 false, 1 unknown, 2 true, 3 a division by zero -/
def ev (r : List (Option Int)) : Cd → Int
  | .alw => 2
  | .unk c => if cell r c = none then 2 else 0
  | .quo c d k => if cell r d = some 0 then 3 else match cell r c, cell r d with
    | some x, some y => if x.fdiv y = k then 2 else 0
    | _, _ => 1
  | .eql c k => match cell r c with
    | none => 1
    | some x => if x = k then 2 else 0
  | .lss c k => match cell r c with
    | none => 1
    | some x => if x < k then 2 else 0
  | .neg x => if ev r x = 3 then 3 else 2 - ev r x
  | .and x y => if ev r x = 0 ∨ ev r x = 3 then ev r x else if ev r y = 3 ∨ ev r y = 0 then ev r y else if ev r x = 1 ∨ ev r y = 1 then 1 else ev r y
  | .or x y => if ev r x = 2 ∨ ev r x = 3 then ev r x else if ev r y = 3 ∨ ev r y = 2 then ev r y else if ev r x = 1 ∨ ev r y = 1 then 1 else ev r y
theorem ev_range (r : List (Option Int)) : ∀ c : Cd, 0 ≤ ev r c ∧ ev r c ≤ 3
  | .alw => by unfold ev; omega
  | .unk c => by unfold ev; split <;> omega
  | .quo c d k => by
    unfold ev
    split
    · omega
    · split
      · split <;> omega
      · omega
  | .eql c k => by
    unfold ev
    split
    · omega
    · split <;> omega
  | .lss c k => by
    unfold ev
    split
    · omega
    · split <;> omega
  | .neg x => by
    have := ev_range r x
    unfold ev
    split <;> omega
  | .and x y => by
    have := ev_range r x
    have := ev_range r y
    unfold ev
    split
    · omega
    · split
      · omega
      · split <;> omega
  | .or x y => by
    have := ev_range r x
    have := ev_range r y
    unfold ev
    split
    · omega
    · split
      · omega
      · split <;> omega
/-- no connective -/
def Cd.atomic : Cd → Bool
  | .neg _ => false
  | .and .. => false
  | .or .. => false
  | _ => true
/-- the value of an atom (none: a division by zero) -/
def av (r : List (Option Int)) : Cd → Option V
  | .alw => some (.bl true)
  | .unk c => some (.bl (decide (cellV (cell r c) = .non)))
  | .quo c d k => if cell r d = some 0 then none else match cell r c, cell r d with
    | some x, some y => some (.bl (decide (x.fdiv y = k)))
    | _, _ => some .non
  | .eql c k => match cell r c with
    | none => some .non
    | some x => some (.bl (decide (x = k)))
  | .lss c k => match cell r c with
    | none => some .non
    | some x => some (.bl (decide (x < k)))
  | _ => none
theorem av_ev {r : List (Option Int)} : ∀ {c : Cd}, c.atomic = true → (av r c = none ∧ ev r c = 3) ∨ ∃ v, av r c = some v ∧ ev r c ≠ 3 ∧ rankOf v = some (ev r c)
  | .alw, _ => .inr ⟨_, rfl, by unfold ev; decide, by unfold ev; rfl⟩
  | .unk c, _ => by
    refine .inr ⟨_, rfl, ?_, ?_⟩
    · unfold ev; split <;> omega
    · unfold ev
      cases cell r c with
      | none => rfl
      | some i => rfl
  | .quo c d k, _ => by
    unfold av ev
    dsimp only
    by_cases h : cell r d = some 0
    · rw [if_pos h, if_pos h]
      exact .inl ⟨rfl, rfl⟩
    · rw [if_neg h, if_neg h]
      cases cell r c with
      | none => exact .inr ⟨_, rfl, fun z => absurd (show (1 : Int) = 3 from z) (by decide), rfl⟩
      | some x =>
        cases cell r d with
        | none => exact .inr ⟨_, rfl, fun z => absurd (show (1 : Int) = 3 from z) (by decide), rfl⟩
        | some y =>
          refine .inr ⟨_, rfl, ?_, ?_⟩
          · show ¬ ((if x.fdiv y = k then (2 : Int) else 0) = 3)
            split <;> omega
          · by_cases e : x.fdiv y = k
            · simp only [e, decide_true, if_true]; rfl
            · simp only [e, decide_false, if_false]; rfl
  | .eql c k, _ => by
    unfold av ev
    dsimp only
    cases cell r c with
    | none => exact .inr ⟨_, rfl, fun z => absurd (show (1 : Int) = 3 from z) (by decide), rfl⟩
    | some x =>
      refine .inr ⟨_, rfl, ?_, ?_⟩
      · show ¬ ((if x = k then (2 : Int) else 0) = 3)
        split <;> omega
      · by_cases e : x = k
        · simp only [e, decide_true, if_true]; rfl
        · simp only [e, decide_false, if_false]; rfl
  | .lss c k, _ => by
    unfold av ev
    dsimp only
    cases cell r c with
    | none => exact .inr ⟨_, rfl, fun z => absurd (show (1 : Int) = 3 from z) (by decide), rfl⟩
    | some x =>
      refine .inr ⟨_, rfl, ?_, ?_⟩
      · show ¬ ((if x < k then (2 : Int) else 0) = 3)
        split <;> omega
      · by_cases e : x < k
        · simp only [e, decide_true, if_true]; rfl
        · simp only [e, decide_false, if_false]; rfl
  | .neg _, h => by cases h
  | .and .., h => by cases h
  | .or .., h => by cases h
/-- what a division by zero lets out -/
def zeroE (K : PySem.W.Frag) (H : Hp) (E : XK) : Prop := ∀ d p H', Same H H' → H' d = some (.xd [("told", .ref p)]) → SqT K H' p [.str "refused", .str "zero"] → E (.ref (ga K "ZeroDivisor")) (some d) H'
def atomC (c : Int) : Option Int → Cd
  | none => .unk c
  | some k => .eql c k
def onlyC (r : List (Option Int)) : Cd := .and (.and (atomC 0 (cell r 0)) (atomC 1 (cell r 1))) (atomC 2 (cell r 2))
end K03


end
section
set_option Elab.async false
set_option linter.all false
set_option maxRecDepth 100000
set_option maxHeartbeats 4000000
/-! ### readings by themselves -/
open PySem PySem.Spec PyProof.Rows L2 in
local macro_rules | `(tactic| k_allIn) => `(tactic| first | (with_reducible assumption) | exact upd_same | (refine Hk.same_upd (by assumption) _ _ ?_; k_allIn) | (refine (upd_ne (by first | assumption | exact Ne.symm (by assumption))).trans ?_; k_allIn))
open PySem PySem.Spec PyProof.Rows L2 in
local macro_rules | `(tactic| k_memK) => `(tactic| first | (with_reducible exact rfl) | (with_reducible assumption) | exact rfl | exact Hk.lk_hd | k_allIn | exact Or.inl (Or.inl (by k_allIn)) | exact ⟨_, rfl⟩ | exact Or.inl ⟨rfl, _, by assumption⟩ | exact Or.inl ⟨rfl, _, Or.inl (Or.inl (by k_allIn))⟩ | exact (fun _ h => h) | exact ClsV.own _ | exact ClsV.ty _ | exact Or.inl ‹_› | exact Or.inr ‹_› | lcg_src | exact Or.inl ⟨by omega, by omega⟩ | exact Or.inr ⟨by omega, by omega⟩ | exact ⟨by omega, by omega⟩ | exact Nat.le_of_lt (small1000 (by simp)) | exact small1000 (by simp) | exact Nat.le_of_lt (small1000 (by omega)) | exact small1000 (by omega) | omega | assumption | decide +kernel)
local macro_rules | `(tactic| lcg_sub) => `(tactic| (refine And.intro ?_ ?_; k_memK))
local macro_rules | `(tactic| k_subL) => `(tactic| (repeat (first | (apply Exists.intro) | lcg_sub | (refine Or.inl ⟨_, rfl, ?_⟩) | (refine Or.inr ⟨_, rfl, ?_⟩))))
namespace K03
open PySem PySem.Spec PyProof.Rows L2
open He (ga ma ba)
local macro_rules | `(tactic| lcg_src) => `(tactic| first | (refine TruthAt.mono ?_ (by assumption); with_reducible assumption))
def sp_ZeroDivisor_init (K : PySem.W.Frag) : Sp := fun vs H Q _ => ∃ a, vs = [.ref a] ∧ H a = some (exo a (ga K "ZeroDivisor") none) ∧
  ∀ p dx, H p = none → (upd H p (.tup [.str "refused", .str "zero"])) dx = none → dx ≠ a → Q .non (upd (upd (upd H p (.tup [.str "refused", .str "zero"])) dx (exd dx [("told", .ref p)])) a (exo a (ga K "ZeroDivisor") (some dx)))
def sp_quotient_value (K : PySem.W.Frag) : Sp := fun vs H Q E => ∃ x y k, vs = [cellV x, cellV y, .int k] ∧ (∀ j, y = some j → 0 ≤ j ∧ j ≤ 2) ∧ (y = some 0 → zeroE K H E) ∧ (y ≠ some 0 → Q (match x, y with
    | some i, some j => .bl (decide (i.fdiv j = k))
    | _, _ => .non) H)
def sp_simple_value (K : PySem.W.Frag) : Sp := fun vs H Q E => ∃ c cd r row, vs = [c, r] ∧ CdAt K H cd c ∧ RowAt K H row r ∧ cd.good ∧ cd.atomic = true ∧ (av row cd = none → zeroE K H E) ∧ (∀ v, av row cd = some v → Q v H)
section
variable {P : Program} {w : World} {K : PySem.W.Frag} {mg : Str → Option Value} {base : Heap}
theorem ok_Truth_invert (T : Txt K mg) : Hk.AOk P w K mg base CX0 3 (Hk.mt K "Truth" "__invert__") ["self"] (sp_Truth_invert K) := by
  refine Hk.mkA T.f_Truth_invert (fun _ _ _ _ _ _ us hl => match us, hl with | [_], _ => rfl) sc_Truth_invert (fun vs H Q E h => ?_) (fun cdv A outer s H vs Q E hr h => ?_)
  · obtain ⟨a, r, rfl, _⟩ := h
    rfl
  · obtain ⟨a, r, rfl, ⟨dx, ha⟩, q⟩ := h
    have hc := T.cl_Truth
    have hn := T.n_Truth_rank
    refine ⟨_, (pss_one (ps_ret (Hk.pe_mk T.mk_Truth (ok_Truth_init T) T.g_Truth (hr.mono (by decide)) pass0 (pa_cons (pe_op op_sub pe_int (pe_fld (pv 0) rfl)) pa_nil)))), ?_⟩
    k_subL
    exact mk_truth q
theorem ok_ZeroDivisor_init (T : Txt K mg) : Hk.AOk P w K mg base CX0 1 (Hk.mt K "ZeroDivisor" "__init__") ["self"] (sp_ZeroDivisor_init K) := by
  refine Hk.mkA T.f_ZeroDivisor_init (fun _ _ _ _ _ _ us hl => match us, hl with | [_], _ => rfl) sc_ZeroDivisor_init (fun vs H Q E h => ?_) (fun cdv A outer s H vs Q E hr h => ?_)
  · obtain ⟨a, rfl, _⟩ := h
    rfl
  · obtain ⟨a, rfl, ha, q⟩ := h
    have ho := T.oe_ZeroDivisor
    have hn := T.nx_ZeroDivisor_told
    refine ⟨_, (pss_one (ps_ost (pv 0) (pe_tup (pa_cons pe_str (pa_cons pe_str pa_nil))) rfl)), ?_⟩
    k_subL
    intro p np
    have ha2 := Hk.same_upd (o := .tup [.str "refused", .str "zero"]) np _ _ ha
    k_subL
    refine Or.inl ⟨ha2, fun dx nd ne => ?_⟩
    exact q p dx np nd ne
theorem zero_made (T : Txt K mg) {H : Hp} {E : XK} (z : zeroE K H E) : ∀ a, H a = none → sp_ZeroDivisor_init K [.ref a] (upd H a (exo a (ga K "ZeroDivisor") none)) (fun v H2 => v = .non ∧ ∃ (d : Addr) (fs : List (Str × V)), H2 a = some (exo a (ga K "ZeroDivisor") (some d)) ∧ H2 d = some (exd d fs) ∧ H d = none ∧ E (.ref (ga K "ZeroDivisor")) (some d) (upd (del H2 a) d (.xd fs))) (fun _ _ _ => False) := by
  intro a na
  refine ⟨a, rfl, upd_same, fun p dx np nd ne => ?_⟩
  have npa : p ≠ a := ne_of_none upd_same np |>.symm
  have np' : H p = none := by rw [upd_ne npa] at np; exact np
  have ndp : dx ≠ p := (ne_of_none upd_same nd).symm
  have nd' : H dx = none := by rw [upd_ne ndp, upd_ne ne] at nd; exact nd
  refine ⟨rfl, dx, _, upd_same, by rw [upd_ne ne]; exact upd_same, nd', z dx p _ (fun b o e => ?_) upd_same (.inl (.inl ?_))⟩
  · have b1 := ne_of_none e nd'
    have b2 := ne_of_none e na
    have b3 := ne_of_none e np'
    rw [upd_ne b1, del_ne b2, upd_ne b2, upd_ne b1, upd_ne b3, upd_ne b2]
    exact e
  · rw [upd_ne ndp.symm, del_ne npa, upd_ne npa, upd_ne ndp.symm]
    exact upd_same
theorem ok_quotient_value (T : Txt K mg) : Hk.GOk P w K mg base (L2N.CX P w) 3 "_quotient_value" ["dividend", "divisor", "value"] (sp_quotient_value K) := by
  refine Hk.mkGX T.g__quotient_value T.f_quotient_value (fun _ _ _ _ _ _ us hl => match us, hl with | [_, _, _], _ => rfl) sc_quotient_value (fun vs H Q E h => ?_) (fun cdv A outer s H vs Q E hr h => ?_)
  · obtain ⟨x, y, k, rfl, _⟩ := h
    rfl
  · obtain ⟨x, y, k, rfl, hs, qz, q⟩ := h
    refine ⟨_, (pss_cons (ps_if (pt_cmpR op_eq (pv 1) pe_int (nomark _))
        (pss_one (L2N.ps_raise rfl (L2N.takes_of rfl rfl rfl rfl) (Hk.pmkN_x0 T.oe_ZeroDivisor T.xi_ZeroDivisor (ok_ZeroDivisor_init T) (hr.mono (by decide)) pass0 T.g_ZeroDivisor)))
        pss_nil)
      (pss_cons (ps_if (PW.pt (pw_or (pt_cmpR op_isN (pv 0) pe_non (nomark _)) (pw_or1 (pt_cmpR op_isN (pv 1) pe_non (nomark _)))))
        (pss_one (ps_ret pe_non))
        pss_nil)
      (pss_one (ps_ret (pe_cmpR op_eq (pe_op op_fdivN (pv 0) (pv 1)) (pv 2) (nomark _)))))), ?_⟩
    cases y with
    | none =>
      have q' := q nofun
      k_subL
      cases x with
      | none =>
        k_subL
        exact q'
      | some i =>
        k_subL
        exact q'
    | some j =>
      k_subL
      by_cases e : j = 0
      · subst e
        k_subL
        exact zero_made T (qz rfl)
      · have q' := q (fun z => e (Option.some.inj z))
        have e' : ¬ (V.int j = V.int 0) := fun z => e (V.int.inj z)
        rw [show decide (cellV (some j) = V.int 0) = false from decide_eq_false e']
        k_subL
        cases x with
        | none =>
          k_subL
          exact q'
        | some i =>
          k_subL
          have hd : CDivN i j := by have := hs j rfl; exact ⟨e, by omega⟩
          k_subL
          simp only [V.int.injEq]
          exact q'
theorem cellV_scal0 (x : Option Int) (k : Int) : scal (cellV x) (.int k) = true := by cases x <;> rfl
theorem ok_simple_value (T : Txt K mg) : Hk.GOk P w K mg base (L2N.CX P w) 4 "_simple_value" ["condition", "row"] (sp_simple_value K) := by
  refine Hk.mkGX T.g__simple_value T.f_simple_value (fun _ _ _ _ _ _ us hl => match us, hl with | [_, _], _ => rfl) sc_simple_value (fun vs H Q E h => ?_) (fun cdv A outer s H vs Q E hr h => ?_)
  · obtain ⟨c, cd, r, row, rfl, _⟩ := h
    rfl
  · obtain ⟨c, cd, r, row, rfl, hc, ⟨ar, rfl, hr1, hr3, hr4⟩, hg, ht, qz, q⟩ := h
    refine ⟨_, (pss_cons (ps_set (i := 2) sc_simple_value.nd rfl (.inl rfl) (pe_ix ix_tup (pv 0) pe_int (fun _ _ => rfl)))
      (pss_cons (ps_if (pt_cmpR op_eq (pv 2) pe_str (nomark _))
        (pss_one (ps_ret pe_bl))
        pss_nil)
      (pss_cons (ps_set (i := 3) sc_simple_value.nd rfl (.inl rfl) (pe_ix ix_tup (pv 1) (pe_ix ix_tup (pv 0) pe_int (fun _ _ => rfl)) (fun _ _ => rfl)))
      (pss_cons (ps_if (pt_cmpR op_eq (pv 2) pe_str (nomark _))
        (pss_one (ps_ret (pe_cmpR op_isN (pv 3) pe_non (nomark _))))
        pss_nil)
      (pss_cons (ps_if (pt_cmpR op_eq (pv 2) pe_str (nomark _))
        (pss_one (ps_ret (Hk.pe_g (ok_quotient_value T) (hr.mono (by decide)) (L2N.passes_call (L2N.takes_of rfl rfl rfl rfl) (fun _ _ _ _ h => h)) (pa_cons (pv 3) (pa_cons (pe_ix ix_tup (pv 1) (pe_ix ix_tup (pv 0) pe_int (fun _ _ => rfl)) (fun _ _ => rfl)) (pa_cons (pe_ix ix_tup (pv 0) pe_int (fun _ _ => rfl)) pa_nil))))))
        pss_nil)
      (pss_cons (ps_if (pt_cmpR op_isN (pv 3) pe_non (nomark _))
        (pss_one (ps_ret pe_non))
        pss_nil)
      (pss_one (ps_ret (pe_ifExp (pt_cmpR op_eq (pv 2) pe_str (nomark _)) (pe_cmpR op_eq (pv 3) (pe_ix ix_tup (pv 0) pe_int (fun _ _ => rfl)) (nomark _)) (pe_cmpR op_lt (pv 3) (pe_ix ix_tup (pv 0) pe_int (fun _ _ => rfl)) (nomark _))))))))))), ?_⟩
    cases cd with
    | alw =>
      obtain ⟨a, rfl, h⟩ := hc
      k_subL
      exact q _ rfl
    | unk i =>
      obtain ⟨a, rfl, h⟩ := hc
      obtain ⟨g0, g1⟩ := hg
      have ra := row_at hr3 g0 g1
      k_subL
      exact q _ rfl
    | quo i j k =>
      obtain ⟨a, rfl, h⟩ := hc
      obtain ⟨⟨g0, g1⟩, ⟨g2, g3⟩⟩ := hg
      have ra := row_at hr3 g0 g1
      have rb := row_at hr3 g2 g3
      have lw : ∀ n, cell row j = some n → 0 ≤ n ∧ n ≤ 2 := fun n => cell_low hr4
      k_subL
      refine And.intro (fun e => qz ?_) (fun e => q _ ?_)
      · unfold av
        exact if_pos e
      · refine (if_neg e).trans ?_
        cases cell row i with
        | none => rfl
        | some x =>
          cases cell row j with
          | none => rfl
          | some y => rfl
    | eql i k =>
      clear hr4
      obtain ⟨a, rfl, h⟩ := hc
      obtain ⟨g0, g1⟩ := hg
      have ra := row_at hr3 g0 g1
      have q2 : ∀ v, (match cell row i with
        | none => some V.non
        | some x => some (V.bl (decide (x = k)))) = some v → Q v H := q
      clear q qz
      generalize cell row i = z at ra q2
      cases z with
      | none =>
        k_subL
        exact q2 _ rfl
      | some x =>
        k_subL
        refine q2 _ ?_
        simp only [cellV, V.int.injEq]
    | lss i k =>
      obtain ⟨a, rfl, h⟩ := hc
      obtain ⟨g0, g1⟩ := hg
      have ra := row_at hr3 g0 g1
      have q2 : ∀ v, (match cell row i with
        | none => some V.non
        | some x => some (V.bl (decide (x < k)))) = some v → Q v H := q
      clear q qz
      generalize cell row i = z at ra q2
      cases z with
      | none =>
        k_subL
        exact q2 _ rfl
      | some x =>
        k_subL
        exact q2 _ rfl
    | neg _ => cases ht
    | and _ _ => cases ht
    | or _ _ => cases ht
end
end K03


end
section
set_option Elab.async false
set_option linter.all false
set_option maxRecDepth 100000
set_option maxHeartbeats 4000000
/-! ### readings by themselves -/
open PySem PySem.Spec PyProof.Rows L2 in
local macro_rules | `(tactic| k_allIn) => `(tactic| first | (with_reducible assumption) | exact upd_same | (refine Hk.same_upd (by assumption) _ _ ?_; k_allIn) | (refine (upd_ne (by first | assumption | exact Ne.symm (by assumption))).trans ?_; k_allIn))
open PySem PySem.Spec PyProof.Rows L2 in
local macro_rules | `(tactic| k_memK) => `(tactic| first | (with_reducible exact rfl) | (with_reducible assumption) | exact rfl | exact Hk.lk_hd | k_allIn | exact Or.inl (Or.inl (by k_allIn)) | exact ⟨_, rfl⟩ | exact Or.inl ⟨rfl, _, by assumption⟩ | exact Or.inl ⟨rfl, _, Or.inl (Or.inl (by k_allIn))⟩ | exact (fun _ h => h) | exact ClsV.own _ | exact ClsV.ty _ | exact Or.inl ‹_› | exact Or.inr ‹_› | lcg_src | exact Or.inl ⟨by omega, by omega⟩ | exact Or.inr ⟨by omega, by omega⟩ | exact ⟨by omega, by omega⟩ | exact Nat.le_of_lt (small1000 (by simp)) | exact small1000 (by simp) | exact Nat.le_of_lt (small1000 (by omega)) | exact small1000 (by omega) | omega | assumption | decide +kernel)
local macro_rules | `(tactic| lcg_sub) => `(tactic| (refine And.intro ?_ ?_; k_memK))
local macro_rules | `(tactic| k_subL) => `(tactic| (repeat (first | (apply Exists.intro) | lcg_sub | (refine Or.inl ⟨_, rfl, ?_⟩) | (refine Or.inr ⟨_, rfl, ?_⟩))))
namespace K03
open PySem PySem.Spec PyProof.Rows L2
open He (ga ma ba)
local macro_rules | `(tactic| lcg_src) => `(tactic| first | (refine TruthAt.mono ?_ (by assumption); with_reducible assumption) | (refine CdAt.mono (by assumption) ?_; with_reducible assumption) | (refine RowAt.mono ?_ (by assumption); with_reducible assumption))
theorem Cd.dep_pos : ∀ c : Cd, 1 ≤ c.dep := by
  intro c
  cases c <;> unfold Cd.dep <;> omega
def sp_truth (K : PySem.W.Frag) (n : Nat) : Sp := fun vs H Q E => ∃ c cd r row, vs = [c, r] ∧ CdAt K H cd c ∧ RowAt K H row r ∧ cd.good ∧ cd.dep ≤ n ∧ (ev row cd = 3 → zeroE K H E) ∧ (ev row cd ≠ 3 → gives K (ev row cd) H Q)
theorem zeroE.same {K : PySem.W.Frag} {H H' : Hp} {E : XK} (z : zeroE K H E) (s : Same H H') : zeroE K H' E := fun d p H2 s2 h1 h2 => z d p H2 (s.trans s2) h1 h2
theorem gives.same {K : PySem.W.Frag} {H H' : Hp} {r : Int} {Q : VK} (g : gives K r H Q) (s : Same H H') : gives K r H' Q := fun a H2 s2 t => g a H2 (s.trans s2) t
section
variable {P : Program} {w : World} {K : PySem.W.Frag} {mg : Str → Option Value} {base : Heap}
theorem truth_step (T : Txt K mg) (n : Nat) (G : Hk.GOk P w K mg base (L2N.CX P w) (n+5) "truth" ["condition", "row"] (sp_truth K n)) : Hk.GOk P w K mg base (L2N.CX P w) (n+6) "truth" ["condition", "row"] (sp_truth K (n+1)) := by
  refine Hk.mkGX T.g_truth T.f_truth (fun _ _ _ _ _ _ us hl => match us, hl with | [_, _], _ => rfl) sc_truth (fun vs H Q E h => ?_) (fun cdv A outer s H vs Q E hr h => ?_)
  · obtain ⟨c, cd, r, row, rfl, _⟩ := h
    rfl
  · obtain ⟨c, cd, r, row, rfl, hc, hrow, hg, hd, qz, q⟩ := h
    obtain ⟨ar, er, hr1, hr3, hr4⟩ := id hrow
    have hcl := T.cl_Truth
    have hn := T.n_Truth_rank
    refine ⟨_, (pss_cons (ps_set (i := 2) sc_truth.nd rfl (.inl rfl) (pe_ix ix_tup (pv 0) pe_int (fun _ _ => rfl)))
      (pss_cons (ps_if (pt_cmpR op_eq (pv 2) pe_str (nomark _))
        (pss_one (ps_ret (pe_un (Hk.un_inv (ok_Truth_invert T) T.m_Truth_invert (hr.mono (by omega)) pass0) (Hk.pe_g G hr (L2N.passes_call (L2N.takes_of rfl rfl rfl rfl) (fun _ _ _ _ h => h)) (pa_cons (pe_ix ix_tup (pv 0) pe_int (fun _ _ => rfl)) (pa_cons (pv 1) pa_nil))))))
        pss_nil)
      (pss_cons (ps_if (pt_cmpR op_eq (pv 2) pe_str (nomark _))
        (pss_cons (ps_set (i := 3) sc_truth.nd rfl (.inl rfl) (Hk.pe_g G hr (L2N.passes_call (L2N.takes_of rfl rfl rfl rfl) (fun _ _ _ _ h => h)) (pa_cons (pe_ix ix_tup (pv 0) pe_int (fun _ _ => rfl)) (pa_cons (pv 1) pa_nil))))
        (pss_one (ps_ret (pe_ifExp (pt_cmpR op_eq (pe_fld (pv 3) rfl) pe_int (nomark _)) (pv 3) (pe_op (Hk.op_bin (ok_Truth_and T) T.sf_Truth T.m_Truth_and (hr.mono (by omega)) pass0) (pv 3) (Hk.pe_g G hr (L2N.passes_call (L2N.takes_of rfl rfl rfl rfl) (fun _ _ _ _ h => h)) (pa_cons (pe_ix ix_tup (pv 0) pe_int (fun _ _ => rfl)) (pa_cons (pv 1) pa_nil))))))))
        pss_nil)
      (pss_cons (ps_if (pt_cmpR op_eq (pv 2) pe_str (nomark _))
        (pss_cons (ps_set (i := 3) sc_truth.nd rfl (.inl rfl) (Hk.pe_g G hr (L2N.passes_call (L2N.takes_of rfl rfl rfl rfl) (fun _ _ _ _ h => h)) (pa_cons (pe_ix ix_tup (pv 0) pe_int (fun _ _ => rfl)) (pa_cons (pv 1) pa_nil))))
        (pss_one (ps_ret (pe_ifExp (pt_cmpR op_eq (pe_fld (pv 3) rfl) pe_int (nomark _)) (pv 3) (pe_op (Hk.op_bin (ok_Truth_or T) T.sf_Truth T.m_Truth_or (hr.mono (by omega)) pass0) (pv 3) (Hk.pe_g G hr (L2N.passes_call (L2N.takes_of rfl rfl rfl rfl) (fun _ _ _ _ h => h)) (pa_cons (pe_ix ix_tup (pv 0) pe_int (fun _ _ => rfl)) (pa_cons (pv 1) pa_nil))))))))
        pss_nil)
      (pss_one (ps_ret (Hk.pe_s (ok_Truth_of T) T.r_Truth T.st_Truth_of (hr.mono (by omega)) pass0 (pe_glob (v := .ref (ga K "Truth")) (by rfl) T.g_Truth rfl) (pa_cons (Hk.pe_g (ok_simple_value T) (hr.mono (by omega)) (L2N.passes_call (L2N.takes_of rfl rfl rfl rfl) (fun _ _ _ _ h => h)) (pa_cons (pv 0) (pa_cons (pv 1) pa_nil))) pa_nil)))))))), ?_⟩
    cases cd with
    | neg x =>
      obtain ⟨a, u, rfl, h, hx⟩ := hc
      have rx := ev_range row x
      k_subL
      refine ⟨by unfold Cd.dep at hd; omega, fun e => qz (by unfold ev; exact if_pos e), fun e b H1 s1 t1 => ?_⟩
      have e2 : ev row (.neg x) = 2 - ev row x := by
        show (if ev row x = 3 then 3 else 2 - ev row x) = _
        exact if_neg e
      have q2 := (q (by rw [e2]; omega)).same s1
      rw [e2] at q2
      obtain ⟨dx, et⟩ := id t1
      k_subL
      exact q2
    | and x y =>
      obtain ⟨a, u, t, rfl, h, hx, hy⟩ := hc
      obtain ⟨hgx, hgy⟩ := hg
      have rx := ev_range row x
      have ry := ev_range row y
      k_subL
      refine ⟨by unfold Cd.dep at hd; omega, fun e => qz (by unfold ev; rw [if_pos (Or.inr e), e]), fun e b H1 s1 t1 => ?_⟩
      obtain ⟨dx, et⟩ := id t1
      dsimp only [gName]
      k_subL
      by_cases e0 : ev row x = 0
      · have e2 : ev row (.and x y) = ev row x := by
          show (if ev row x = 0 ∨ ev row x = 3 then ev row x else _) = _
          exact if_pos (Or.inl e0)
        rw [show decide (V.int (ev row x) = V.int 0) = true from decide_eq_true (congrArg V.int e0)]
        k_subL
        refine q (by rw [e2]; exact e) b H1 s1 ?_
        rw [e2]
        exact t1
      · rw [show decide (V.int (ev row x) = V.int 0) = false from decide_eq_false fun z => e0 (V.int.inj z)]
        have e3 : ¬ (ev row x = 0 ∨ ev row x = 3) := fun z => z.elim e0 e
        have e2 : ev row (.and x y) = (if ev row y = 3 ∨ ev row y = 0 then ev row y else if ev row x = 1 ∨ ev row y = 1 then 1 else ev row y) := by
          show (if ev row x = 0 ∨ ev row x = 3 then ev row x else _) = _
          exact if_neg e3
        have h1 := SqT.mono h s1
        have hy1 := CdAt.mono s1 hy
        have hrow1 := hrow.mono s1
        k_subL
        refine ⟨by unfold Cd.dep at hd; omega, fun e4 => (qz (by rw [e2, if_pos (Or.inl e4), e4])).same s1, fun e4 b2 H2 s2 t2 => ?_⟩
        have t1' := t1.mono s2
        have s12 := s1.trans s2
        obtain ⟨dy, et2⟩ := id t1'
        obtain ⟨dz, et3⟩ := id t2
        k_subL
        intro b3 t3
        refine q ?_ b3 H2 s12 ?_
        · rw [e2]
          split
          · exact e4
          · split <;> omega
        · rw [e2]
          have e5 : (if ev row y < ev row x then ev row y else ev row x) = (if ev row y = 3 ∨ ev row y = 0 then ev row y else if ev row x = 1 ∨ ev row y = 1 then 1 else ev row y) := by
            split <;> split <;> first | omega | (split <;> omega)
          rw [← e5]
          exact t3
    | or x y =>
      obtain ⟨a, u, t, rfl, h, hx, hy⟩ := hc
      obtain ⟨hgx, hgy⟩ := hg
      have rx := ev_range row x
      have ry := ev_range row y
      k_subL
      refine ⟨by unfold Cd.dep at hd; omega, fun e => qz (by unfold ev; rw [if_pos (Or.inr e), e]), fun e b H1 s1 t1 => ?_⟩
      obtain ⟨dx, et⟩ := id t1
      dsimp only [gName]
      k_subL
      by_cases e0 : ev row x = 2
      · have e2 : ev row (.or x y) = ev row x := by
          show (if ev row x = 2 ∨ ev row x = 3 then ev row x else _) = _
          exact if_pos (Or.inl e0)
        rw [show decide (V.int (ev row x) = V.int 2) = true from decide_eq_true (congrArg V.int e0)]
        k_subL
        refine q (by rw [e2]; exact e) b H1 s1 ?_
        rw [e2]
        exact t1
      · rw [show decide (V.int (ev row x) = V.int 2) = false from decide_eq_false fun z => e0 (V.int.inj z)]
        have e3 : ¬ (ev row x = 2 ∨ ev row x = 3) := fun z => z.elim e0 e
        have e2 : ev row (.or x y) = (if ev row y = 3 ∨ ev row y = 2 then ev row y else if ev row x = 1 ∨ ev row y = 1 then 1 else ev row y) := by
          show (if ev row x = 2 ∨ ev row x = 3 then ev row x else _) = _
          exact if_neg e3
        have h1 := SqT.mono h s1
        have hy1 := CdAt.mono s1 hy
        have hrow1 := hrow.mono s1
        k_subL
        refine ⟨by unfold Cd.dep at hd; omega, fun e4 => (qz (by rw [e2, if_pos (Or.inl e4), e4])).same s1, fun e4 b2 H2 s2 t2 => ?_⟩
        have t1' := t1.mono s2
        have s12 := s1.trans s2
        obtain ⟨dy, et2⟩ := id t1'
        obtain ⟨dz, et3⟩ := id t2
        k_subL
        intro b3 t3
        refine q ?_ b3 H2 s12 ?_
        · rw [e2]
          split
          · exact e4
          · split <;> omega
        · rw [e2]
          have e5 : (if ev row y > ev row x then ev row y else ev row x) = (if ev row y = 3 ∨ ev row y = 2 then ev row y else if ev row x = 1 ∨ ev row y = 1 then 1 else ev row y) := by
            split <;> split <;> first | omega | (split <;> omega)
          rw [← e5]
          exact t3
    | alw =>
      have ha := av_ev (r := row) (c := .alw) rfl
      obtain ⟨a, rfl, h⟩ := id hc
      k_subL
      rcases ha with ⟨a1, a2⟩ | ⟨v, a1, a2, a3⟩
      · exact And.intro (fun _ => qz a2) (fun v av => absurd (a1.symm.trans av) nofun)
      · refine And.intro (fun z => absurd (a1.symm.trans z) nofun) (fun v' av' => ?_)
        obtain rfl := Option.some.inj (a1.symm.trans av')
        have q2 := q a2
        k_subL
        exact q2
    | unk i =>
      have ha := av_ev (r := row) (c := .unk i) rfl
      obtain ⟨a, rfl, h⟩ := id hc
      k_subL
      rcases ha with ⟨a1, a2⟩ | ⟨v, a1, a2, a3⟩
      · exact And.intro (fun _ => qz a2) (fun v av => absurd (a1.symm.trans av) nofun)
      · refine And.intro (fun z => absurd (a1.symm.trans z) nofun) (fun v' av' => ?_)
        obtain rfl := Option.some.inj (a1.symm.trans av')
        have q2 := q a2
        k_subL
        exact q2
    | quo i j k =>
      have ha := av_ev (r := row) (c := .quo i j k) rfl
      obtain ⟨a, rfl, h⟩ := id hc
      k_subL
      rcases ha with ⟨a1, a2⟩ | ⟨v, a1, a2, a3⟩
      · exact And.intro (fun _ => qz a2) (fun v av => absurd (a1.symm.trans av) nofun)
      · refine And.intro (fun z => absurd (a1.symm.trans z) nofun) (fun v' av' => ?_)
        obtain rfl := Option.some.inj (a1.symm.trans av')
        have q2 := q a2
        k_subL
        exact q2
    | eql i k =>
      have ha := av_ev (r := row) (c := .eql i k) rfl
      obtain ⟨a, rfl, h⟩ := id hc
      k_subL
      rcases ha with ⟨a1, a2⟩ | ⟨v, a1, a2, a3⟩
      · exact And.intro (fun _ => qz a2) (fun v av => absurd (a1.symm.trans av) nofun)
      · refine And.intro (fun z => absurd (a1.symm.trans z) nofun) (fun v' av' => ?_)
        obtain rfl := Option.some.inj (a1.symm.trans av')
        have q2 := q a2
        k_subL
        exact q2
    | lss i k =>
      have ha := av_ev (r := row) (c := .lss i k) rfl
      obtain ⟨a, rfl, h⟩ := id hc
      k_subL
      rcases ha with ⟨a1, a2⟩ | ⟨v, a1, a2, a3⟩
      · exact And.intro (fun _ => qz a2) (fun v av => absurd (a1.symm.trans av) nofun)
      · refine And.intro (fun z => absurd (a1.symm.trans z) nofun) (fun v' av' => ?_)
        obtain rfl := Option.some.inj (a1.symm.trans av')
        have q2 := q a2
        k_subL
        exact q2
theorem ok_truth (T : Txt K mg) : ∀ n, Hk.GOk P w K mg base (L2N.CX P w) (n+5) "truth" ["condition", "row"] (sp_truth K n)
  | 0 => by
    obtain ⟨fd, F⟩ := T.f_truth
    refine ⟨T.g_truth, fd, F.kp, F.bindsN (fun _ _ _ _ _ _ us hl => match us, hl with | [_, _], _ => rfl), ⟨fun vs H Q E h => ?_, fun A outer s H args us vs Q E _ _ _ _ h => ?_⟩⟩
    · obtain ⟨c, cd, r, row, _, _, _, _, hd, _⟩ := h
      have := cd.dep_pos
      omega
    · obtain ⟨c, cd, r, row, _, _, _, _, hd, _⟩ := h
      have := cd.dep_pos
      omega
  | n + 1 => truth_step T n (ok_truth T n)
end
end K03


end
section
set_option Elab.async false
set_option linter.all false
set_option maxRecDepth 100000
set_option maxHeartbeats 4000000
/-! ### readings by themselves -/
open PySem PySem.Spec PyProof.Rows L2 in
local macro_rules | `(tactic| k_allIn) => `(tactic| first | (with_reducible assumption) | exact upd_same | (refine Hk.same_upd (by assumption) _ _ ?_; k_allIn) | (refine (upd_ne (by first | assumption | exact Ne.symm (by assumption))).trans ?_; k_allIn))
open PySem PySem.Spec PyProof.Rows L2 in
local macro_rules | `(tactic| k_memK) => `(tactic| first | (with_reducible exact rfl) | (with_reducible assumption) | exact rfl | exact Hk.lk_hd | k_allIn | exact Or.inl (Or.inl (by k_allIn)) | exact ⟨_, rfl⟩ | exact Or.inl ⟨rfl, _, by assumption⟩ | exact Or.inl ⟨rfl, _, Or.inl (Or.inl (by k_allIn))⟩ | exact (fun _ h => h) | exact ClsV.own _ | exact ClsV.ty _ | exact Or.inl ‹_› | exact Or.inr ‹_› | lcg_src | exact Or.inl ⟨by omega, by omega⟩ | exact Or.inr ⟨by omega, by omega⟩ | exact ⟨by omega, by omega⟩ | exact Nat.le_of_lt (small1000 (by simp)) | exact small1000 (by simp) | exact Nat.le_of_lt (small1000 (by omega)) | exact small1000 (by omega) | omega | assumption | decide +kernel)
local macro_rules | `(tactic| lcg_sub) => `(tactic| (refine And.intro ?_ ?_; k_memK))
local macro_rules | `(tactic| k_subL) => `(tactic| (repeat (first | (apply Exists.intro) | lcg_sub | (refine Or.inl ⟨_, rfl, ?_⟩) | (refine Or.inr ⟨_, rfl, ?_⟩))))
namespace K03
open PySem PySem.Spec PyProof.Rows L2
open He (ga ma ba)
/-! ### the law's draws -/
/-- the box: the script's copy, the place, the number, the count, whether it is great -/
structure BoxIs (H : Hp) (b l : Addr) (ns : List Int) (i m c g : Int) : Prop where
  hb : H b = some (.lst [.ref l, .int i, .int m, .int c, .int g])
  hl : H l = some (.lst (ns.map V.int))
  h0 : 0 ≤ i
  hn : ns.length ≤ 63
def BoxAt (H : Hp) (b l : Addr) : Prop := ∃ ns i m c g, BoxIs H b l ns i m c g
/-- all but the thing at b is as it was -/
def SameBut (b : Addr) (H H' : Hp) : Prop := ∀ x o, H x = some o → x ≠ b → H' x = some o
theorem SameBut.refl (b : Addr) (H : Hp) : SameBut b H H := fun _ _ h _ => h
theorem SameBut.upd {b : Addr} {H : Hp} {o : HO} : SameBut b H (upd H b o) := fun x o' h n => by rw [upd_ne n]; exact h
theorem SameBut.trans {b : Addr} {H H1 H2 : Hp} (h : SameBut b H H1) (k : SameBut b H1 H2) : SameBut b H H2 := fun x o e n => k x o (h x o e n) n
theorem BoxIs.ne {H : Hp} {b l : Addr} {ns : List Int} {i m c g : Int} (B : BoxIs H b l ns i m c g) : l ≠ b := by
  intro e
  have h1 := B.hb
  have h2 := B.hl
  rw [e, h1] at h2
  injection h2 with h2
  injection h2 with h2
  cases ns with
  | nil => cases h2
  | cons x r => injection h2 with h2 _; cases h2
theorem BoxIs.set {H : Hp} {b l : Addr} {ns : List Int} {i m c g i' m' c' g' : Int} (B : BoxIs H b l ns i m c g) (h : 0 ≤ i') : BoxIs (upd H b (.lst [.ref l, .int i', .int m', .int c', .int g'])) b l ns i' m' c' g' :=
  ⟨upd_same, by rw [upd_ne B.ne]; exact B.hl, h, B.hn⟩
theorem BoxAt.ne {H : Hp} {b l p : Addr} (B : BoxAt H b l) (n : H p = none) : p ≠ b := by
  obtain ⟨ns, i, m, c, g, B⟩ := B
  exact (ne_of_none B.hb n).symm
theorem BoxAt.nel {H : Hp} {b l p : Addr} (B : BoxAt H b l) (n : H p = none) : p ≠ l := by
  obtain ⟨ns, i, m, c, g, B⟩ := B
  exact (ne_of_none B.hl n).symm
theorem BoxAt.set {H : Hp} {b l p : Addr} {o : HO} (B : BoxAt H b l) (n : p ≠ b) (k : p ≠ l) : BoxAt (upd H p o) b l := by
  obtain ⟨ns, i, m, c, g, ⟨h1, h2, h3, h4⟩⟩ := B
  exact ⟨ns, i, m, c, g, ⟨by rw [upd_ne n.symm]; exact h1, by rw [upd_ne k.symm]; exact h2, h3, h4⟩⟩
theorem BoxAt.upd {H : Hp} {b l p : Addr} {o : HO} (B : BoxAt H b l) (n : H p = none) : BoxAt (upd H p o) b l := B.set (B.ne n) (B.nel n)
theorem BoxAt.same {H H' : Hp} {b l : Addr} (B : BoxAt H b l) (s : Same H H') : BoxAt H' b l := by
  obtain ⟨ns, i, m, c, g, ⟨h1, h2, h3, h4⟩⟩ := B
  exact ⟨ns, i, m, c, g, ⟨s _ _ h1, s _ _ h2, h3, h4⟩⟩
theorem Same.but {H H' : Hp} (s : Same H H') (b : Addr) : SameBut b H H' := fun x o h _ => s x o h
def sp_box (K : PySem.W.Frag) : Sp := fun vs H Q _ => ∃ (a : Addr) (ns : List Int), vs = [.ref a] ∧ SqL K H a (ns.map V.int) ∧ ns.length ≤ 63 ∧ ∀ b l H', Same H H' → H b = none → H l = none → BoxAt H' b l → Q (.ref b) H'
def sp_draw : Sp := fun vs H Q _ => ∃ b n l, vs = [.ref b, .int n] ∧ BoxAt H b l ∧ 0 < n ∧ n < 1000000 ∧ ∀ k H', 0 ≤ k → k < n → BoxAt H' b l → SameBut b H H' → Q (.int k) H'
section
variable {P : Program} {w : World} {K : PySem.W.Frag} {mg : Str → Option Value} {base : Heap}
theorem ok_box (T : Txt K mg) : Hk.GOk P w K mg base CX0 1 "_law_box" ["_law_script"] (sp_box K) := by
  refine Hk.mkG T.g__law_box T.f_box (fun _ _ _ _ _ _ us hl => match us, hl with | [_], _ => rfl) sc_box (fun vs H Q E h => ?_) (fun cdv A outer s H vs Q E hr h => ?_)
  · obtain ⟨a, ns, rfl, _⟩ := h
    rfl
  · obtain ⟨a, ns, rfl, hs, hn, q⟩ := h
    refine ⟨_, (pss_one (ps_ret (pe_lst (pa_cons (pe_callTy call_list_of (by rfl) T.z_list (by decide +kernel) (pa_cons (pv 0) pa_nil)) (pa_cons pe_int (pa_cons pe_int (pa_cons pe_int (pa_cons pe_int pa_nil)))))))), ?_⟩
    k_subL
    intro l nl
    refine And.intro ?_ ?_
    · refine Nat.le_of_lt (small1000 ?_)
      simp
    intro b nb
    have nlb : l ≠ b := ne_of_none upd_same nb
    refine q b l _ (fun x o e => ?_) ?_ nl ⟨ns, 0, 0, 0, 0, ⟨upd_same, ?_, by omega, hn⟩⟩
    · rw [upd_ne (ne_of_none (Hk.same_upd nl _ _ e) nb), upd_ne (ne_of_none e nl)]
      exact e
    · exact (Hk.same_upd nl).free nb
    · rw [upd_ne nlb]
      exact upd_same
/-- behind the filling: a box whose count is not 0 is drawn from -/
theorem ok_draw (T : Txt K mg) : Hk.GOk P w K mg base CX0 1 "_law_draw" ["_law_box_here", "_law_size"] (sp_draw) := by
  refine Hk.mkG T.g__law_draw T.f_draw (fun _ _ _ _ _ _ us hl => match us, hl with | [_, _], _ => rfl) sc_draw (fun vs H Q E h => ?_) (fun cdv A outer s H vs Q E hr h => ?_)
  · obtain ⟨b, n, l, rfl, _⟩ := h
    rfl
  · obtain ⟨b, n, l, rfl, ⟨ns, i, m, c, g, B⟩, h0, h1, q⟩ := h
    have hne := B.ne
    obtain ⟨hb, hl, hi, hn⟩ := id B
    refine ⟨_, (pss_cons (ps_if (pt_cmpR op_eq (pe_ix ix_list (pv 0) pe_int (fun _ _ => rfl)) pe_int (nomark _))
        (pss_cons (ps_if (pt_cmpR op_ge (pe_ix ix_list (pv 0) pe_int (fun _ _ => rfl)) (pe_callB call_len_seq (by rfl) T.z_len (by decide +kernel) (pa_cons (pe_ix ix_list (pv 0) pe_int (fun _ _ => rfl)) pa_nil)) (nomark _))
          (pss_one (ps_ret pe_int))
          pss_nil)
        (pss_cons (ps_asg (pe_callB call_abs (by rfl) T.z_abs (by decide +kernel) (pa_cons (pe_callTy call_int1 (by rfl) T.z_int (by decide +kernel) (pa_cons (pe_ix ix_list (pe_ix ix_list (pv 0) pe_int (fun _ _ => rfl)) (pe_ix ix_list (pv 0) pe_int (fun _ _ => rfl)) (fun _ _ => rfl)) pa_nil)) pa_nil)) (pg_sub (pv 0) pe_int set_list))
        (pss_cons (ps_asg (pe_op op_add (pe_ix ix_list (pv 0) pe_int (fun _ _ => rfl)) pe_int) (pg_sub (pv 0) pe_int set_list))
        (pss_cons (ps_asg (pe_callTy call_int1 (by rfl) T.z_int (by decide +kernel) (pa_cons (pe_cmpR op_ge (pe_ix ix_list (pv 0) pe_int (fun _ _ => rfl)) (pe_op op_pow pe_int pe_int) (nomark _)) pa_nil)) (pg_sub (pv 0) pe_int set_list))
        (pss_one (ps_asg (pe_op op_add pe_int (pe_op op_mul pe_int (pe_ix ix_list (pv 0) pe_int (fun _ _ => rfl)))) (pg_sub (pv 0) pe_int set_list)))))))
        pss_nil)
      (pss_cons (ps_asg (pe_op op_sub (pe_ix ix_list (pv 0) pe_int (fun _ _ => rfl)) pe_int) (pg_sub (pv 0) pe_int set_list))
      (pss_cons (ps_if (pt_cmpR op_eq (pe_ix ix_list (pv 0) pe_int (fun _ _ => rfl)) pe_int (nomark _))
        (pss_cons (ps_set (i := 2) sc_draw.nd rfl (.inl rfl) (pe_op op_modN (pe_callTy call_int1 (by rfl) T.z_int (by decide +kernel) (pa_cons (pe_ix ix_list (pv 0) pe_int (fun _ _ => rfl)) pa_nil)) (pv 1)))
        (pss_cons (ps_asg (pe_op op_fdivN (pe_callTy call_int1 (by rfl) T.z_int (by decide +kernel) (pa_cons (pe_ix ix_list (pv 0) pe_int (fun _ _ => rfl)) pa_nil)) (pv 1)) (pg_sub (pv 0) pe_int set_list))
        (pss_cons (ps_if (pt_cmpR op_eq (pe_ix ix_list (pv 0) pe_int (fun _ _ => rfl)) pe_int (nomark _))
          (pss_one (ps_asg pe_int (pg_sub (pv 0) pe_int set_list)))
          pss_nil)
        (pss_one (ps_ret (pv 2))))))
        pss_nil)
      (pss_cons (ps_set (i := 3) sc_draw.nd rfl (.inl rfl) (pe_op op_modN (pe_callTy call_int1 (by rfl) T.z_int (by decide +kernel) (pa_cons (pe_op op_add (pe_op op_add (pe_op op_mul (pe_callTy call_int1 (by rfl) T.z_int (by decide +kernel) (pa_cons (pe_ix ix_list (pv 0) pe_int (fun _ _ => rfl)) pa_nil)) pe_int) (pe_op op_mul (pe_ix ix_list (pv 0) pe_int (fun _ _ => rfl)) pe_int)) pe_int) pa_nil)) pe_int))
      (pss_cons (ps_set (i := 3) sc_draw.nd rfl (.inl rfl) (pe_op op_modN (pe_callTy call_int1 (by rfl) T.z_int (by decide +kernel) (pa_cons (pe_op op_add (pe_op op_add (pe_op op_mul (pv 3) pe_int) (pe_op op_mul (pe_ix ix_list (pv 0) pe_int (fun _ _ => rfl)) pe_int)) pe_int) pa_nil)) pe_int))
      (pss_one (ps_ret (pe_op op_modN (pe_callTy call_int1 (by rfl) T.z_int (by decide +kernel) (pa_cons (pv 3) pa_nil)) (pv 1))))))))), ?_⟩
    refine Hk.seq_rest (fun σ' H' => σ' = [some (.ref b), some (.int n), none, none] ∧ (∃ i m c g, BoxIs H' b l ns i m c g) ∧ SameBut b H H') (fun nx hnx => ?_) ?_
    · k_subL
      rw [Hk.dI]
      refine ite2 (fun e => ?_) (fun e => ?_)
      · have el : SqL K H l (ns.map V.int) := .inl (.inl hl)
        k_subL
        refine ite2 (fun e2 => ?_) (fun e2 => ?_)
        · exact q 0 H (Int.le_refl _) h0 ⟨ns, i, m, c, g, B⟩ (SameBut.refl _ _)
        · have hlt : i < ns.length := by
            rw [decide_eq_true_eq, List.length_map] at e2
            omega
          obtain ⟨x, hx, _⟩ := Hk.atI_map (f := V.int) hi hlt
          k_subL
          refine hnx _ _ ⟨rfl, ⟨_, _, _, _, ⟨upd_same, by k_allIn, ?_, hn⟩⟩, fun x o h n => ?_⟩
          · show 0 ≤ i + 1
            omega
          · repeat rw [upd_ne n]
            exact h
      · exact hnx _ _ ⟨rfl, ⟨i, m, c, g, B⟩, SameBut.refl _ _⟩
    · clear B hb hl hi
      rintro σ' H1 ⟨rfl, ⟨i, m, c, g, B⟩, hs⟩
      obtain ⟨hb, hl, hi, hn⟩ := id B
      k_subL
      rw [Hk.dI]
      refine ite2 (fun e => ?_) (fun e => ?_)
      · k_subL
        rw [Hk.dI]
        refine ite2 (fun e2 => ?_) (fun e2 => ?_)
        · k_subL
          refine q _ _ (Hk.fmod_lo h0) (Hk.fmod_hi h0) ⟨ns, _, _, _, _, ⟨upd_same, by k_allIn, hi, hn⟩⟩ fun x o h n => ?_
          repeat rw [upd_ne n]
          exact hs _ _ h n
        · k_subL
          refine q _ _ (Hk.fmod_lo h0) (Hk.fmod_hi h0) ⟨ns, _, _, _, _, ⟨upd_same, by k_allIn, hi, hn⟩⟩ fun x o h n => ?_
          repeat rw [upd_ne n]
          exact hs _ _ h n
      · k_subL
        refine q _ _ (Hk.fmod_lo h0) (Hk.fmod_hi h0) ⟨ns, _, _, _, _, ⟨upd_same, by k_allIn, hi, hn⟩⟩ fun x o h n => ?_
        repeat rw [upd_ne n]
        exact hs _ _ h n
end
end K03


end
section
set_option Elab.async false
set_option linter.all false
set_option maxRecDepth 100000
set_option maxHeartbeats 4000000
/-! ### readings by themselves -/
open PySem PySem.Spec PyProof.Rows L2 in
local macro_rules | `(tactic| k_allIn) => `(tactic| first | (with_reducible assumption) | exact upd_same | (refine Hk.same_upd (by assumption) _ _ ?_; k_allIn) | (refine (upd_ne (by first | assumption | exact Ne.symm (by assumption))).trans ?_; k_allIn))
open PySem PySem.Spec PyProof.Rows L2 in
local macro_rules | `(tactic| k_memK) => `(tactic| first | (with_reducible exact rfl) | (with_reducible assumption) | exact rfl | exact Hk.lk_hd | k_allIn | exact Or.inl (Or.inl (by k_allIn)) | exact ⟨_, rfl⟩ | exact Or.inl ⟨rfl, _, by assumption⟩ | exact Or.inl ⟨rfl, _, Or.inl (Or.inl (by k_allIn))⟩ | exact (fun _ h => h) | exact ClsV.own _ | exact ClsV.ty _ | exact Or.inl ‹_› | exact Or.inr ‹_› | lcg_src | exact Or.inl ⟨by omega, by omega⟩ | exact Or.inr ⟨by omega, by omega⟩ | exact ⟨by omega, by omega⟩ | exact Nat.le_of_lt (small1000 (by simp)) | exact small1000 (by simp) | exact Nat.le_of_lt (small1000 (by omega)) | exact small1000 (by omega) | omega | assumption | decide +kernel)
local macro_rules | `(tactic| lcg_sub) => `(tactic| (refine And.intro ?_ ?_; k_memK))
local macro_rules | `(tactic| k_subL) => `(tactic| (repeat (first | (apply Exists.intro) | lcg_sub | (refine Or.inl ⟨_, rfl, ?_⟩) | (refine Or.inr ⟨_, rfl, ?_⟩))))
namespace K03
open PySem PySem.Spec PyProof.Rows L2
open He (ga ma ba)
/-- data of less than this depth, no list of more than 1,000 -/
def fits : Nat → PyData → Bool
  | 0, _ => false
  | _ + 1, .dict _ => false
  | n + 1, .list ds => decide (ds.length ≤ 1000) && ds.all (fits n)
  | n + 1, .tuple ds => decide (ds.length ≤ 1000) && ds.all (fits n)
  | _ + 1, _ => true
def sp_alike (K : PySem.W.Frag) (n : Nat) : Sp := fun vs H Q _ => ∃ x y d, vs = [x, y] ∧ Dp K H x d ∧ Dp K H y d ∧ fits n d = true ∧ Q (.bl true) H
theorem SqL.but {K : PySem.W.Frag} {H H' : Hp} {a b : Addr} {xs : List V} (h : SqL K H a xs) (s : SameBut b H H') (n : a ≠ b) : SqL K H' a xs := by
  rcases h with (h | ⟨o, h⟩) | h
  · exact .inl (.inl (s _ _ h n))
  · exact .inl (.inr ⟨o, s _ _ h n⟩)
  · exact .inr h
section
variable {P : Program} {w : World} {K : PySem.W.Frag} {mg : Str → Option Value} {base : Heap}
theorem kBB : PySem.W.kitOne K (.type "bool") (.type "bool") = some true := kit_ty (by decide +kernel)
theorem kII : PySem.W.kitOne K (.type "int") (.type "int") = some true := kit_ty (by decide +kernel)
theorem kIB : PySem.W.kitOne K (.type "int") (.type "bool") = some false := kit_ty (by decide +kernel)
theorem kSI : PySem.W.kitOne K (.type "str") (.type "int") = some false := kit_ty (by decide +kernel)
theorem kSS : PySem.W.kitOne K (.type "str") (.type "str") = some true := kit_ty (by decide +kernel)
theorem kTI : PySem.W.kitOne K (.type "tuple") (.type "int") = some false := kit_ty (by decide +kernel)
theorem kTS : PySem.W.kitOne K (.type "tuple") (.type "str") = some false := kit_ty (by decide +kernel)
theorem kTT : PySem.W.kitOne K (.type "tuple") (.type "tuple") = some true := kit_ty (by decide +kernel)
theorem kLI : PySem.W.kitOne K (.type "list") (.type "int") = some false := kit_ty (by decide +kernel)
theorem kLS : PySem.W.kitOne K (.type "list") (.type "str") = some false := kit_ty (by decide +kernel)
theorem kLT : PySem.W.kitOne K (.type "list") (.type "tuple") = some false := kit_ty (by decide +kernel)
theorem kLL : PySem.W.kitOne K (.type "list") (.type "list") = some true := kit_ty (by decide +kernel)
theorem alike_step (T : Txt K mg) (n : Nat) (G : Hk.GOk P w K mg base CX0 n "_law_alike" ["_law_actual", "_law_due"] (sp_alike K n)) : Hk.GOk P w K mg base CX0 (n+1) "_law_alike" ["_law_actual", "_law_due"] (sp_alike K (n+1)) := by
  refine Hk.mkG T.g__law_alike T.f_alike (fun _ _ _ _ _ _ us hl => match us, hl with | [_, _], _ => rfl) sc_alike (fun vs H Q E h => ?_) (fun cdv A outer s H vs Q E hr h => ?_)
  · obtain ⟨x, y, d, rfl, _⟩ := h
    rfl
  · obtain ⟨x, y, d, rfl, hx, hy, hf, q⟩ := h
    have k1 : PySem.W.kitOne K (.type "bool") (.type "bool") = some true := kBB
    have k2 : PySem.W.kitOne K (.type "int") (.type "int") = some true := kII
    have k3 : PySem.W.kitOne K (.type "int") (.type "bool") = some false := kIB
    have k4 : PySem.W.kitOne K (.type "str") (.type "int") = some false := kSI
    have k5 : PySem.W.kitOne K (.type "str") (.type "str") = some true := kSS
    have k6 : PySem.W.kitOne K (.type "tuple") (.type "int") = some false := kTI
    have k7 : PySem.W.kitOne K (.type "tuple") (.type "str") = some false := kTS
    have k8 : PySem.W.kitOne K (.type "tuple") (.type "tuple") = some true := kTT
    have k9 : PySem.W.kitOne K (.type "list") (.type "int") = some false := kLI
    have k10 : PySem.W.kitOne K (.type "list") (.type "str") = some false := kLS
    have k11 : PySem.W.kitOne K (.type "list") (.type "tuple") = some false := kLT
    have k12 : PySem.W.kitOne K (.type "list") (.type "list") = some true := kLL
    refine ⟨_, (pss_cons (ps_if (pt_cmpR op_isN (pv 1) pe_non (nomark _))
        (pss_one (ps_ret (pe_cmpR op_isN (pv 0) pe_non (nomark _))))
        pss_nil)
      (pss_cons (ps_if (PW.pt (pw_or (pt_cmpR Hk.op_isB (pv 1) pe_bl (nomark _)) (pw_or1 (pt_cmpR Hk.op_isB (pv 1) pe_bl (nomark _)))))
        (pss_one (ps_ret (pe_and (pe_callB call_isi (by rfl) T.z_isinstance (by decide +kernel) (pa_cons (pv 0) (pa_cons (pe_bltn (v := .ty "bool") (by rfl) T.z_bool (by decide +kernel) rfl) pa_nil))) (pe_one (pe_cmpR op_eq (pv 0) (pv 1) (nomark _))))))
        pss_nil)
      (pss_cons (ps_if (pt_val (pe_callB call_isi (by rfl) T.z_isinstance (by decide +kernel) (pa_cons (pv 1) (pa_cons (pe_bltn (v := .ty "int") (by rfl) T.z_int (by decide +kernel) rfl) pa_nil))))
        (pss_one (ps_ret (pe_and (pe_callB call_isi (by rfl) T.z_isinstance (by decide +kernel) (pa_cons (pv 0) (pa_cons (pe_bltn (v := .ty "int") (by rfl) T.z_int (by decide +kernel) rfl) pa_nil))) (pe_and (pe_not (pe_callB call_isi (by rfl) T.z_isinstance (by decide +kernel) (pa_cons (pv 0) (pa_cons (pe_bltn (v := .ty "bool") (by rfl) T.z_bool (by decide +kernel) rfl) pa_nil)))) (pe_one (pe_cmpR op_eq (pv 0) (pv 1) (nomark _)))))))
        pss_nil)
      (pss_cons (ps_if (pt_val (pe_callB call_isi (by rfl) T.z_isinstance (by decide +kernel) (pa_cons (pv 1) (pa_cons (pe_bltn (v := .ty "str") (by rfl) T.z_str (by decide +kernel) rfl) pa_nil))))
        (pss_one (ps_ret (pe_and (pe_callB call_isi (by rfl) T.z_isinstance (by decide +kernel) (pa_cons (pv 0) (pa_cons (pe_bltn (v := .ty "str") (by rfl) T.z_str (by decide +kernel) rfl) pa_nil))) (pe_one (pe_cmpR op_eq (pv 0) (pv 1) (nomark _))))))
        pss_nil)
      (pss_cons (ps_if (pt_val (pe_callB call_isi (by rfl) T.z_isinstance (by decide +kernel) (pa_cons (pv 1) (pa_cons (pe_bltn (v := .ty "tuple") (by rfl) T.z_tuple (by decide +kernel) rfl) pa_nil))))
        (pss_one (ps_if (PW.pt (pw_or (pt_not (pt_val (pe_callB call_isi (by rfl) T.z_isinstance (by decide +kernel) (pa_cons (pv 0) (pa_cons (pe_bltn (v := .ty "tuple") (by rfl) T.z_tuple (by decide +kernel) rfl) pa_nil))))) (pw_or1 (pt_cmpR op_ne (pe_callB call_len_seq (by rfl) T.z_len (by decide +kernel) (pa_cons (pv 0) pa_nil)) (pe_callB call_len_seq (by rfl) T.z_len (by decide +kernel) (pa_cons (pv 1) pa_nil)) (nomark _)))))
          (pss_one (ps_ret pe_bl))
          pss_nil))
        (pss_one (ps_if (PW.pt (pw_or (pt_not (pt_val (pe_callB call_isi (by rfl) T.z_isinstance (by decide +kernel) (pa_cons (pv 0) (pa_cons (pe_bltn (v := .ty "list") (by rfl) T.z_list (by decide +kernel) rfl) pa_nil))))) (pw_or1 (pt_cmpR op_ne (pe_callB call_len_seq (by rfl) T.z_len (by decide +kernel) (pa_cons (pv 0) pa_nil)) (pe_callB call_len_seq (by rfl) T.z_len (by decide +kernel) (pa_cons (pv 1) pa_nil)) (nomark _)))))
          (pss_one (ps_ret pe_bl))
          pss_nil)))
      (pss_cons (ps_for PassesOwn.never rfl (pi_range1 (by rfl) T.z_range (pa_cons (pe_callB call_len_seq (by rfl) T.z_len (by decide +kernel) (pa_cons (pv 1) pa_nil)) pa_nil)) (pg_name (i := 2) sc_alike.nd rfl (.inl rfl))
        (pss_one (ps_if (pt_not (pt_val (Hk.pe_g G hr pass0 (pa_cons (pe_ix ix_seq (pv 0) (pv 2) (fun _ _ => rfl)) (pa_cons (pe_ix ix_seq (pv 1) (pv 2) (fun _ _ => rfl)) pa_nil)))))
          (pss_one (ps_ret pe_bl))
          pss_nil)))
      (pss_one (ps_ret pe_bl)))))))), ?_⟩
    cases d with
    | none =>
      cases hx
      cases hy
      k_subL
      exact q
    | bool b =>
      cases hx
      cases hy
      have t1 : TyX K H (.bl b) (.type "bool") := .base (.bl b)
      refine Hk.seq_skip (fun nx hnx => ?_) ?_
      · k_subL
        exact hnx
      · cases b with
        | true =>
          k_subL
          exact q
        | false =>
          k_subL
          exact q
    | int i =>
      cases hx
      cases hy
      have t1 : TyX K H (.int i) (.type "int") := .base (.int i)
      refine Hk.seq_skip (fun nx hnx => ?_) ?_
      · k_subL
        exact hnx
      refine Hk.seq_skip (fun nx hnx => ?_) ?_
      · k_subL
        exact hnx
      k_subL
      rw [decide_eq_true rfl]
      exact q
    | str z =>
      cases hx
      cases hy
      have t1 : TyX K H (.str z) (.type "str") := .base (.str z)
      refine Hk.seq_skip (fun nx hnx => ?_) ?_
      · k_subL
        exact hnx
      refine Hk.seq_skip (fun nx hnx => ?_) ?_
      · k_subL
        exact hnx
      refine Hk.seq_skip (fun nx hnx => ?_) ?_
      · k_subL
        exact hnx
      k_subL
      rw [decide_eq_true rfl]
      exact q
    | tuple ds =>
      cases hx with
      | @tup ax xs _ hsx hax =>
      cases hy with
      | @tup ay ys _ hsy hay =>
      obtain ⟨hle, hall⟩ := ba (show (decide (ds.length ≤ 1000) && ds.all (fits n)) = true from hf)
      have hle := of_decide_eq_true hle
      have lx := Hk.DpAll.len hax
      have ly := Hk.DpAll.len hay
      have tx := Hk.ty_SqT hsx
      have ty := Hk.ty_SqT hsy
      have el : xs.length = ys.length := by omega
      refine Hk.seq_skip (fun nx hnx => ?_) ?_
      · k_subL
        exact hnx
      refine Hk.seq_skip (fun nx hnx => ?_) ?_
      · k_subL
        exact hnx
      refine Hk.seq_skip (fun nx hnx => ?_) ?_
      · k_subL
        exact hnx
      refine Hk.seq_skip (fun nx hnx => ?_) ?_
      · k_subL
        exact hnx
      refine Hk.seq_skip (fun nx hnx => ?_) ?_
      · k_subL
        rw [el, decide_eq_true rfl]
        k_subL
        exact hnx
      refine Hk.tfor_rng (lo := 0) (n := ds.length) (fun i σ' H' => (∃ v, σ' = [some (.ref ax), some (.ref ay), v]) ∧ H' = H) (fun R hR => ?_) ⟨⟨none, rfl⟩, rfl⟩ (fun i σ' H' nx hi hp hnx => ?_) (fun σ' H' hp => ?_)
      · k_subL
        rw [Int.toNat_natCast, ly]
        exact hR
      · obtain ⟨⟨v, rfl⟩, rfl⟩ := hp
        obtain ⟨x', hx1, hx2⟩ := Hk.DpAll.get hax (List.getElem?_eq_getElem hi)
        obtain ⟨y', hy1, hy2⟩ := Hk.DpAll.get hay (List.getElem?_eq_getElem hi)
        have hfd : fits n ds[i] = true := List.all_eq_true.mp hall _ (List.getElem_mem hi)
        have ix : atI xs (0 + (i : Int)) = some x' := by rw [Int.zero_add]; exact atI_nat hx1
        have iy : atI ys (0 + (i : Int)) = some y' := by rw [Int.zero_add]; exact atI_nat hy1
        k_subL
        refine Or.inr (Or.inl ?_)
        k_subL
        refine Or.inr (Or.inl ?_)
        k_subL
        exact hnx _ _ ⟨⟨_, rfl⟩, rfl⟩
      · obtain ⟨⟨v, rfl⟩, rfl⟩ := hp
        k_subL
        exact q
    | list ds =>
      cases hx with
      | @lst ax xs _ hsx hax =>
      cases hy with
      | @lst ay ys _ hsy hay =>
      obtain ⟨hle, hall⟩ := ba (show (decide (ds.length ≤ 1000) && ds.all (fits n)) = true from hf)
      have hle := of_decide_eq_true hle
      have lx := Hk.DpAll.len hax
      have ly := Hk.DpAll.len hay
      have tx := Hk.ty_SqL hsx
      have ty := Hk.ty_SqL hsy
      have el : xs.length = ys.length := by omega
      refine Hk.seq_skip (fun nx hnx => ?_) ?_
      · k_subL
        exact hnx
      refine Hk.seq_skip (fun nx hnx => ?_) ?_
      · k_subL
        exact hnx
      refine Hk.seq_skip (fun nx hnx => ?_) ?_
      · k_subL
        exact hnx
      refine Hk.seq_skip (fun nx hnx => ?_) ?_
      · k_subL
        exact hnx
      refine Hk.seq_skip (fun nx hnx => ?_) ?_
      · k_subL
        rw [el, decide_eq_true rfl]
        k_subL
        exact hnx
      refine Hk.tfor_rng (lo := 0) (n := ds.length) (fun i σ' H' => (∃ v, σ' = [some (.ref ax), some (.ref ay), v]) ∧ H' = H) (fun R hR => ?_) ⟨⟨none, rfl⟩, rfl⟩ (fun i σ' H' nx hi hp hnx => ?_) (fun σ' H' hp => ?_)
      · k_subL
        rw [Int.toNat_natCast, ly]
        exact hR
      · obtain ⟨⟨v, rfl⟩, rfl⟩ := hp
        obtain ⟨x', hx1, hx2⟩ := Hk.DpAll.get hax (List.getElem?_eq_getElem hi)
        obtain ⟨y', hy1, hy2⟩ := Hk.DpAll.get hay (List.getElem?_eq_getElem hi)
        have hfd : fits n ds[i] = true := List.all_eq_true.mp hall _ (List.getElem_mem hi)
        have ix : atI xs (0 + (i : Int)) = some x' := by rw [Int.zero_add]; exact atI_nat hx1
        have iy : atI ys (0 + (i : Int)) = some y' := by rw [Int.zero_add]; exact atI_nat hy1
        k_subL
        refine Or.inl ?_
        k_subL
        refine Or.inl ?_
        k_subL
        exact hnx _ _ ⟨⟨_, rfl⟩, rfl⟩
      · obtain ⟨⟨v, rfl⟩, rfl⟩ := hp
        k_subL
        exact q
    | dict _ => cases hf
theorem ok_alike (T : Txt K mg) : ∀ n, Hk.GOk P w K mg base CX0 n "_law_alike" ["_law_actual", "_law_due"] (sp_alike K n)
  | 0 => by
    obtain ⟨fd, F⟩ := T.f_alike
    refine ⟨T.g__law_alike, fd, F.kp, F.bindsN (fun _ _ _ _ _ _ us hl => match us, hl with | [_, _], _ => rfl), ⟨fun vs H Q E h => ?_, fun A outer s H args us vs Q E _ _ _ _ h => ?_⟩⟩
    · obtain ⟨x, y, d, _, _, _, hf, _⟩ := h
      cases hf
    · obtain ⟨x, y, d, _, _, _, hf, _⟩ := h
      cases hf
  | n + 1 => alike_step T n (ok_alike T n)
end
end K03


end
section
set_option Elab.async false
set_option linter.all false
set_option maxRecDepth 100000
set_option maxHeartbeats 4000000
/-! ### readings by themselves -/
open PySem PySem.Spec PyProof.Rows L2 in
local macro_rules | `(tactic| k_allIn) => `(tactic| first | (with_reducible assumption) | exact upd_same | (refine Hk.same_upd (by assumption) _ _ ?_; k_allIn) | (refine (upd_ne (by first | assumption | exact Ne.symm (by assumption))).trans ?_; k_allIn))
open PySem PySem.Spec PyProof.Rows L2 in
local macro_rules | `(tactic| k_memK) => `(tactic| first | (with_reducible exact rfl) | (with_reducible assumption) | exact rfl | exact Hk.lk_hd | k_allIn | exact Or.inl (Or.inl (by k_allIn)) | exact ⟨_, rfl⟩ | exact Or.inl ⟨rfl, _, by assumption⟩ | exact Or.inl ⟨rfl, _, Or.inl (Or.inl (by k_allIn))⟩ | exact (fun _ h => h) | exact ClsV.own _ | exact ClsV.ty _ | exact Or.inl ‹_› | exact Or.inr ‹_› | lcg_src | exact Or.inl ⟨by omega, by omega⟩ | exact Or.inr ⟨by omega, by omega⟩ | exact ⟨by omega, by omega⟩ | exact Nat.le_of_lt (small1000 (by simp)) | exact small1000 (by simp) | exact Nat.le_of_lt (small1000 (by omega)) | exact small1000 (by omega) | omega | assumption | decide +kernel)
local macro_rules | `(tactic| lcg_sub) => `(tactic| (refine And.intro ?_ ?_; k_memK))
local macro_rules | `(tactic| k_subL) => `(tactic| (repeat (first | (apply Exists.intro) | lcg_sub | (refine Or.inl ⟨_, rfl, ?_⟩) | (refine Or.inr ⟨_, rfl, ?_⟩))))
namespace K03
open PySem PySem.Spec PyProof.Rows L2
open He (ga ma ba)
section
variable {P : Program} {w : World} {K : PySem.W.Frag} {mg : Str → Option Value} {base : Heap}
theorem alikeH_step (T : Txt K mg) (n : Nat) (G : Hk.GOkH P w K mg base CX0 n "_law_alike" ["_law_actual", "_law_due"] (sp_alike K n)) : Hk.GOkH P w K mg base CX0 (n+1) "_law_alike" ["_law_actual", "_law_due"] (sp_alike K (n+1)) := by
  refine Hk.mkGH T.g__law_alike T.f_alike (fun _ _ _ _ _ _ us hl => match us, hl with | [_, _], _ => rfl) sc_alike (fun vs H Q E h => ?_) (fun cdv A outer s H vs Q E pin hotc hr h => ?_)
  · obtain ⟨x, y, d, rfl, _⟩ := h
    rfl
  · obtain ⟨x, y, d, rfl, hx, hy, hf, q⟩ := h
    have k1 : PySem.W.kitOne K (.type "bool") (.type "bool") = some true := kBB
    have k2 : PySem.W.kitOne K (.type "int") (.type "int") = some true := kII
    have k3 : PySem.W.kitOne K (.type "int") (.type "bool") = some false := kIB
    have k4 : PySem.W.kitOne K (.type "str") (.type "int") = some false := kSI
    have k5 : PySem.W.kitOne K (.type "str") (.type "str") = some true := kSS
    have k6 : PySem.W.kitOne K (.type "tuple") (.type "int") = some false := kTI
    have k7 : PySem.W.kitOne K (.type "tuple") (.type "str") = some false := kTS
    have k8 : PySem.W.kitOne K (.type "tuple") (.type "tuple") = some true := kTT
    have k9 : PySem.W.kitOne K (.type "list") (.type "int") = some false := kLI
    have k10 : PySem.W.kitOne K (.type "list") (.type "str") = some false := kLS
    have k11 : PySem.W.kitOne K (.type "list") (.type "tuple") = some false := kLT
    have k12 : PySem.W.kitOne K (.type "list") (.type "list") = some true := kLL
    refine ⟨_, (pss_cons (ps_if (pt_cmpR op_isN (pv 1) pe_non (nomark _))
        (pss_one (ps_ret (pe_cmpR op_isN (pv 0) pe_non (nomark _))))
        pss_nil)
      (pss_cons (ps_if (PW.pt (pw_or (pt_cmpR Hk.op_isB (pv 1) pe_bl (nomark _)) (pw_or1 (pt_cmpR Hk.op_isB (pv 1) pe_bl (nomark _)))))
        (pss_one (ps_ret (pe_and (pe_callB call_isi (by rfl) T.z_isinstance (by decide +kernel) (pa_cons (pv 0) (pa_cons (pe_bltn (v := .ty "bool") (by rfl) T.z_bool (by decide +kernel) rfl) pa_nil))) (pe_one (pe_cmpR op_eq (pv 0) (pv 1) (nomark _))))))
        pss_nil)
      (pss_cons (ps_if (pt_val (pe_callB call_isi (by rfl) T.z_isinstance (by decide +kernel) (pa_cons (pv 1) (pa_cons (pe_bltn (v := .ty "int") (by rfl) T.z_int (by decide +kernel) rfl) pa_nil))))
        (pss_one (ps_ret (pe_and (pe_callB call_isi (by rfl) T.z_isinstance (by decide +kernel) (pa_cons (pv 0) (pa_cons (pe_bltn (v := .ty "int") (by rfl) T.z_int (by decide +kernel) rfl) pa_nil))) (pe_and (pe_not (pe_callB call_isi (by rfl) T.z_isinstance (by decide +kernel) (pa_cons (pv 0) (pa_cons (pe_bltn (v := .ty "bool") (by rfl) T.z_bool (by decide +kernel) rfl) pa_nil)))) (pe_one (pe_cmpR op_eq (pv 0) (pv 1) (nomark _)))))))
        pss_nil)
      (pss_cons (ps_if (pt_val (pe_callB call_isi (by rfl) T.z_isinstance (by decide +kernel) (pa_cons (pv 1) (pa_cons (pe_bltn (v := .ty "str") (by rfl) T.z_str (by decide +kernel) rfl) pa_nil))))
        (pss_one (ps_ret (pe_and (pe_callB call_isi (by rfl) T.z_isinstance (by decide +kernel) (pa_cons (pv 0) (pa_cons (pe_bltn (v := .ty "str") (by rfl) T.z_str (by decide +kernel) rfl) pa_nil))) (pe_one (pe_cmpR op_eq (pv 0) (pv 1) (nomark _))))))
        pss_nil)
      (pss_cons (ps_if (pt_val (pe_callB call_isi (by rfl) T.z_isinstance (by decide +kernel) (pa_cons (pv 1) (pa_cons (pe_bltn (v := .ty "tuple") (by rfl) T.z_tuple (by decide +kernel) rfl) pa_nil))))
        (pss_one (ps_if (PW.pt (pw_or (pt_not (pt_val (pe_callB call_isi (by rfl) T.z_isinstance (by decide +kernel) (pa_cons (pv 0) (pa_cons (pe_bltn (v := .ty "tuple") (by rfl) T.z_tuple (by decide +kernel) rfl) pa_nil))))) (pw_or1 (pt_cmpR op_ne (pe_callB call_len_seq (by rfl) T.z_len (by decide +kernel) (pa_cons (pv 0) pa_nil)) (pe_callB call_len_seq (by rfl) T.z_len (by decide +kernel) (pa_cons (pv 1) pa_nil)) (nomark _)))))
          (pss_one (ps_ret pe_bl))
          pss_nil))
        (pss_one (ps_if (PW.pt (pw_or (pt_not (pt_val (pe_callB call_isi (by rfl) T.z_isinstance (by decide +kernel) (pa_cons (pv 0) (pa_cons (pe_bltn (v := .ty "list") (by rfl) T.z_list (by decide +kernel) rfl) pa_nil))))) (pw_or1 (pt_cmpR op_ne (pe_callB call_len_seq (by rfl) T.z_len (by decide +kernel) (pa_cons (pv 0) pa_nil)) (pe_callB call_len_seq (by rfl) T.z_len (by decide +kernel) (pa_cons (pv 1) pa_nil)) (nomark _)))))
          (pss_one (ps_ret pe_bl))
          pss_nil)))
      (pss_cons (L2H.ps_forH PassesOwn.never hotc (L2H.pi_range1H (by rfl) T.z_range (pa_cons (pe_callB call_len_seq (by rfl) T.z_len (by decide +kernel) (pa_cons (pv 1) pa_nil)) pa_nil)) (pg_name (i := 2) sc_alike.nd rfl (.inl rfl))
        (pss_one (ps_if (pt_not (pt_val (Hk.pe_gH G hr hotc (fun σ => Hk.passA0 (E := E0) σ) (pa_cons (pe_ix ix_seq (pv 0) (pv 2) (fun _ _ => rfl)) (pa_cons (pe_ix ix_seq (pv 1) (pv 2) (fun _ _ => rfl)) pa_nil)))))
          (pss_one (ps_ret pe_bl))
          pss_nil)))
      (pss_one (ps_ret pe_bl)))))))), ?_⟩
    cases d with
    | none =>
      cases hx
      cases hy
      k_subL
      exact q
    | bool b =>
      cases hx
      cases hy
      have t1 : TyX K H (.bl b) (.type "bool") := .base (.bl b)
      refine Hk.seq_skip (fun nx hnx => ?_) ?_
      · k_subL
        exact hnx
      · cases b with
        | true =>
          k_subL
          exact q
        | false =>
          k_subL
          exact q
    | int i =>
      cases hx
      cases hy
      have t1 : TyX K H (.int i) (.type "int") := .base (.int i)
      refine Hk.seq_skip (fun nx hnx => ?_) ?_
      · k_subL
        exact hnx
      refine Hk.seq_skip (fun nx hnx => ?_) ?_
      · k_subL
        exact hnx
      k_subL
      rw [decide_eq_true rfl]
      exact q
    | str z =>
      cases hx
      cases hy
      have t1 : TyX K H (.str z) (.type "str") := .base (.str z)
      refine Hk.seq_skip (fun nx hnx => ?_) ?_
      · k_subL
        exact hnx
      refine Hk.seq_skip (fun nx hnx => ?_) ?_
      · k_subL
        exact hnx
      refine Hk.seq_skip (fun nx hnx => ?_) ?_
      · k_subL
        exact hnx
      k_subL
      rw [decide_eq_true rfl]
      exact q
    | tuple ds =>
      cases hx with
      | @tup ax xs _ hsx hax =>
      cases hy with
      | @tup ay ys _ hsy hay =>
      obtain ⟨hle, hall⟩ := ba (show (decide (ds.length ≤ 1000) && ds.all (fits n)) = true from hf)
      have hle := of_decide_eq_true hle
      have lx := Hk.DpAll.len hax
      have ly := Hk.DpAll.len hay
      have tx := Hk.ty_SqT hsx
      have ty := Hk.ty_SqT hsy
      have el : xs.length = ys.length := by omega
      refine Hk.seq_skip (fun nx hnx => ?_) ?_
      · k_subL
        exact hnx
      refine Hk.seq_skip (fun nx hnx => ?_) ?_
      · k_subL
        exact hnx
      refine Hk.seq_skip (fun nx hnx => ?_) ?_
      · k_subL
        exact hnx
      refine Hk.seq_skip (fun nx hnx => ?_) ?_
      · k_subL
        exact hnx
      refine Hk.seq_skip (fun nx hnx => ?_) ?_
      · k_subL
        rw [el, decide_eq_true rfl]
        k_subL
        exact hnx
      refine Hk.tfor_rng (lo := 0) (n := ds.length) (fun i σ' H' => (∃ v, σ' = [some (.ref ax), some (.ref ay), v]) ∧ H' = H) (fun R hR => ?_) ⟨⟨none, rfl⟩, rfl⟩ (fun i σ' H' nx hi hp hnx => ?_) (fun σ' H' hp => ?_)
      · k_subL
        rw [Int.toNat_natCast, ly]
        exact hR
      · obtain ⟨⟨v, rfl⟩, rfl⟩ := hp
        obtain ⟨x', hx1, hx2⟩ := Hk.DpAll.get hax (List.getElem?_eq_getElem hi)
        obtain ⟨y', hy1, hy2⟩ := Hk.DpAll.get hay (List.getElem?_eq_getElem hi)
        have hfd : fits n ds[i] = true := List.all_eq_true.mp hall _ (List.getElem_mem hi)
        have ix : atI xs (0 + (i : Int)) = some x' := by rw [Int.zero_add]; exact atI_nat hx1
        have iy : atI ys (0 + (i : Int)) = some y' := by rw [Int.zero_add]; exact atI_nat hy1
        k_subL
        refine Or.inr (Or.inl ?_)
        k_subL
        refine Or.inr (Or.inl ?_)
        k_subL
        exact hnx _ _ ⟨⟨_, rfl⟩, rfl⟩
      · obtain ⟨⟨v, rfl⟩, rfl⟩ := hp
        k_subL
        exact q
    | list ds =>
      cases hx with
      | @lst ax xs _ hsx hax =>
      cases hy with
      | @lst ay ys _ hsy hay =>
      obtain ⟨hle, hall⟩ := ba (show (decide (ds.length ≤ 1000) && ds.all (fits n)) = true from hf)
      have hle := of_decide_eq_true hle
      have lx := Hk.DpAll.len hax
      have ly := Hk.DpAll.len hay
      have tx := Hk.ty_SqL hsx
      have ty := Hk.ty_SqL hsy
      have el : xs.length = ys.length := by omega
      refine Hk.seq_skip (fun nx hnx => ?_) ?_
      · k_subL
        exact hnx
      refine Hk.seq_skip (fun nx hnx => ?_) ?_
      · k_subL
        exact hnx
      refine Hk.seq_skip (fun nx hnx => ?_) ?_
      · k_subL
        exact hnx
      refine Hk.seq_skip (fun nx hnx => ?_) ?_
      · k_subL
        exact hnx
      refine Hk.seq_skip (fun nx hnx => ?_) ?_
      · k_subL
        rw [el, decide_eq_true rfl]
        k_subL
        exact hnx
      refine Hk.tfor_rng (lo := 0) (n := ds.length) (fun i σ' H' => (∃ v, σ' = [some (.ref ax), some (.ref ay), v]) ∧ H' = H) (fun R hR => ?_) ⟨⟨none, rfl⟩, rfl⟩ (fun i σ' H' nx hi hp hnx => ?_) (fun σ' H' hp => ?_)
      · k_subL
        rw [Int.toNat_natCast, ly]
        exact hR
      · obtain ⟨⟨v, rfl⟩, rfl⟩ := hp
        obtain ⟨x', hx1, hx2⟩ := Hk.DpAll.get hax (List.getElem?_eq_getElem hi)
        obtain ⟨y', hy1, hy2⟩ := Hk.DpAll.get hay (List.getElem?_eq_getElem hi)
        have hfd : fits n ds[i] = true := List.all_eq_true.mp hall _ (List.getElem_mem hi)
        have ix : atI xs (0 + (i : Int)) = some x' := by rw [Int.zero_add]; exact atI_nat hx1
        have iy : atI ys (0 + (i : Int)) = some y' := by rw [Int.zero_add]; exact atI_nat hy1
        k_subL
        refine Or.inl ?_
        k_subL
        refine Or.inl ?_
        k_subL
        exact hnx _ _ ⟨⟨_, rfl⟩, rfl⟩
      · obtain ⟨⟨v, rfl⟩, rfl⟩ := hp
        k_subL
        exact q
    | dict _ => cases hf
theorem okH_alike (T : Txt K mg) : ∀ n, Hk.GOkH P w K mg base CX0 n "_law_alike" ["_law_actual", "_law_due"] (sp_alike K n)
  | 0 => by
    obtain ⟨fd, F⟩ := T.f_alike
    refine ⟨T.g__law_alike, fd, F.kp, F.bindsN (fun _ _ _ _ _ _ us hl => match us, hl with | [_, _], _ => rfl), ⟨fun vs H Q E h => ?_, fun A outer s H args us vs Q E p _ _ _ _ _ _ h => ?_⟩⟩
    · obtain ⟨x, y, d, _, _, _, hf, _⟩ := h
      cases hf
    · obtain ⟨x, y, d, _, _, _, hf, _⟩ := h
      cases hf
  | n + 1 => alikeH_step T n (okH_alike T n)
end
end K03


end
section
set_option Elab.async false
set_option linter.all false
set_option maxRecDepth 100000
set_option maxHeartbeats 4000000
/-! ### readings by themselves -/
open PySem PySem.Spec PyProof.Rows L2 in
local macro_rules | `(tactic| k_allIn) => `(tactic| first | (with_reducible assumption) | exact upd_same | (refine Hk.same_upd (by assumption) _ _ ?_; k_allIn) | (refine (upd_ne (by first | assumption | exact Ne.symm (by assumption))).trans ?_; k_allIn))
open PySem PySem.Spec PyProof.Rows L2 in
local macro_rules | `(tactic| k_memK) => `(tactic| first | (with_reducible exact rfl) | (with_reducible assumption) | exact rfl | exact Hk.lk_hd | k_allIn | exact Or.inl (Or.inl (by k_allIn)) | exact ⟨_, rfl⟩ | exact Or.inl ⟨rfl, _, by assumption⟩ | exact Or.inl ⟨rfl, _, Or.inl (Or.inl (by k_allIn))⟩ | exact (fun _ h => h) | exact ClsV.own _ | exact ClsV.ty _ | exact Or.inl ‹_› | exact Or.inr ‹_› | lcg_src | exact Or.inl ⟨by omega, by omega⟩ | exact Or.inr ⟨by omega, by omega⟩ | exact ⟨by omega, by omega⟩ | exact Nat.le_of_lt (small1000 (by simp)) | exact small1000 (by simp) | exact Nat.le_of_lt (small1000 (by omega)) | exact small1000 (by omega) | omega | assumption | decide +kernel)
local macro_rules | `(tactic| lcg_sub) => `(tactic| (refine And.intro ?_ ?_; k_memK))
local macro_rules | `(tactic| k_subL) => `(tactic| (repeat (first | (apply Exists.intro) | lcg_sub | (refine Or.inl ⟨_, rfl, ?_⟩) | (refine Or.inr ⟨_, rfl, ?_⟩))))
namespace K03
open PySem PySem.Spec PyProof.Rows L2
open He (ga ma ba)
local macro_rules | `(tactic| lcg_src) => `(tactic| first | (refine TruthAt.mono ?_ (by assumption); with_reducible assumption) | (refine CdAt.mono (by assumption) ?_; with_reducible assumption) | (refine RowAt.mono ?_ (by assumption); with_reducible assumption))
def sp_atom (K : PySem.W.Frag) : Sp := fun vs H Q _ => ∃ c x, vs = [.int c, cellV x] ∧ ∀ p H', Same H H' → CdAt K H' (atomC c x) (.ref p) → Q (.ref p) H'
def sp_only (K : PySem.W.Frag) : Sp := fun vs H Q _ => ∃ r row, vs = [r] ∧ RowAt K H row r ∧ ∀ p H', Same H H' → CdAt K H' (onlyC row) (.ref p) → Q (.ref p) H'
section
variable {P : Program} {w : World} {K : PySem.W.Frag} {mg : Str → Option Value} {base : Heap}
theorem ok_atom (T : Txt K mg) : Hk.GOk P w K mg base CX0 1 "atom" ["column", "value"] (sp_atom K) := by
  refine Hk.mkG T.g_atom T.f_atom (fun _ _ _ _ _ _ us hl => match us, hl with | [_, _], _ => rfl) sc_atom (fun vs H Q E h => ?_) (fun cdv A outer s H vs Q E hr h => ?_)
  · obtain ⟨c, x, rfl, _⟩ := h
    rfl
  · obtain ⟨c, x, rfl, q⟩ := h
    refine ⟨_, (pss_cons (ps_if (pt_cmpR op_isN (pv 1) pe_non (nomark _))
        (pss_one (ps_ret (pe_tup (pa_cons pe_str (pa_cons (pv 0) pa_nil)))))
        pss_nil)
      (pss_one (ps_ret (pe_tup (pa_cons pe_str (pa_cons (pv 0) (pa_cons (pv 1) pa_nil))))))), ?_⟩
    cases x with
    | none =>
      k_subL
      intro p np
      exact q p _ (Hk.same_upd np) ⟨p, rfl, .inl (.inl upd_same)⟩
    | some k =>
      k_subL
      intro p np
      exact q p _ (Hk.same_upd np) ⟨p, rfl, .inl (.inl upd_same)⟩
theorem ok_Latom (T : Txt K mg) : Hk.GOk P w K mg base CX0 1 "_law_atom" ["_law_column", "_law_known"] (sp_atom K) := by
  refine Hk.mkG T.g__law_atom T.f_Latom (fun _ _ _ _ _ _ us hl => match us, hl with | [_, _], _ => rfl) sc_Latom (fun vs H Q E h => ?_) (fun cdv A outer s H vs Q E hr h => ?_)
  · obtain ⟨c, x, rfl, _⟩ := h
    rfl
  · obtain ⟨c, x, rfl, q⟩ := h
    refine ⟨_, (pss_cons (ps_if (pt_cmpR op_isN (pv 1) pe_non (nomark _))
        (pss_one (ps_ret (pe_tup (pa_cons pe_str (pa_cons (pv 0) pa_nil)))))
        pss_nil)
      (pss_one (ps_ret (pe_tup (pa_cons pe_str (pa_cons (pv 0) (pa_cons (pv 1) pa_nil))))))), ?_⟩
    cases x with
    | none =>
      k_subL
      intro p np
      exact q p _ (Hk.same_upd np) ⟨p, rfl, .inl (.inl upd_same)⟩
    | some k =>
      k_subL
      intro p np
      exact q p _ (Hk.same_upd np) ⟨p, rfl, .inl (.inl upd_same)⟩
theorem ok_only (T : Txt K mg) : Hk.GOk P w K mg base CX0 2 "only" ["row"] (sp_only K) := by
  refine Hk.mkG T.g_only T.f_only (fun _ _ _ _ _ _ us hl => match us, hl with | [_], _ => rfl) sc_only (fun vs H Q E h => ?_) (fun cdv A outer s H vs Q E hr h => ?_)
  · obtain ⟨r, row, rfl, _⟩ := h
    rfl
  · obtain ⟨r, row, rfl, hr0, q⟩ := h
    obtain ⟨ar, rfl, hr1, hr3, hr4⟩ := id hr0
    have r0 := row_at (c := 0) hr3 (by decide) (by decide)
    have r1 := row_at (c := 1) hr3 (by decide) (by decide)
    have r2 := row_at (c := 2) hr3 (by decide) (by decide)
    refine ⟨_, (pss_one (ps_ret (pe_tup (pa_cons pe_str (pa_cons (pe_tup (pa_cons pe_str (pa_cons (Hk.pe_g (ok_atom T) (hr.mono (by decide)) pass0 (pa_cons pe_int (pa_cons (pe_ix ix_tup (pv 0) pe_int (fun _ _ => rfl)) pa_nil))) (pa_cons (Hk.pe_g (ok_atom T) (hr.mono (by decide)) pass0 (pa_cons pe_int (pa_cons (pe_ix ix_tup (pv 0) pe_int (fun _ _ => rfl)) pa_nil))) pa_nil)))) (pa_cons (Hk.pe_g (ok_atom T) (hr.mono (by decide)) pass0 (pa_cons pe_int (pa_cons (pe_ix ix_tup (pv 0) pe_int (fun _ _ => rfl)) pa_nil))) pa_nil)))))), ?_⟩
    k_subL
    intro p1 H1 s1 c1
    have h1 := SqT.mono hr1 s1
    k_subL
    intro p2 H2 s2 c2
    have h2 := SqT.mono h1 s2
    k_subL
    intro p3 n3
    have s3 : Same H2 _ := Hk.same_upd (o := .tup [.str "and", .ref p1, .ref p2]) n3
    have h3 := SqT.mono h2 s3
    k_subL
    intro p4 H4 s4 c4
    k_subL
    intro p5 n5
    have s5 : Same H4 _ := Hk.same_upd (o := .tup [.str "and", .ref p3, .ref p4]) n5
    refine q p5 _ ((((s1.trans s2).trans s3).trans s4).trans s5) ⟨p5, _, _, rfl, .inl (.inl upd_same), ⟨p3, .ref p1, .ref p2, rfl, ?_, ?_, ?_⟩, c4.mono s5⟩
    · exact SqT.mono (.inl (.inl upd_same)) (s4.trans s5)
    · exact c1.mono (((s2.trans s3).trans s4).trans s5)
    · exact c2.mono ((s3.trans s4).trans s5)
theorem ok_Lonly (T : Txt K mg) : Hk.GOk P w K mg base CX0 2 "_law_only" ["_law_row_here"] (sp_only K) := by
  refine Hk.mkG T.g__law_only T.f_Lonly (fun _ _ _ _ _ _ us hl => match us, hl with | [_], _ => rfl) sc_Lonly (fun vs H Q E h => ?_) (fun cdv A outer s H vs Q E hr h => ?_)
  · obtain ⟨r, row, rfl, _⟩ := h
    rfl
  · obtain ⟨r, row, rfl, hr0, q⟩ := h
    obtain ⟨ar, rfl, hr1, hr3, hr4⟩ := id hr0
    have r0 := row_at (c := 0) hr3 (by decide) (by decide)
    have r1 := row_at (c := 1) hr3 (by decide) (by decide)
    have r2 := row_at (c := 2) hr3 (by decide) (by decide)
    refine ⟨_, (pss_one (ps_ret (pe_tup (pa_cons pe_str (pa_cons (pe_tup (pa_cons pe_str (pa_cons (Hk.pe_g (ok_Latom T) (hr.mono (by decide)) pass0 (pa_cons pe_int (pa_cons (pe_ix ix_tup (pv 0) pe_int (fun _ _ => rfl)) pa_nil))) (pa_cons (Hk.pe_g (ok_Latom T) (hr.mono (by decide)) pass0 (pa_cons pe_int (pa_cons (pe_ix ix_tup (pv 0) pe_int (fun _ _ => rfl)) pa_nil))) pa_nil)))) (pa_cons (Hk.pe_g (ok_Latom T) (hr.mono (by decide)) pass0 (pa_cons pe_int (pa_cons (pe_ix ix_tup (pv 0) pe_int (fun _ _ => rfl)) pa_nil))) pa_nil)))))), ?_⟩
    k_subL
    intro p1 H1 s1 c1
    have h1 := SqT.mono hr1 s1
    k_subL
    intro p2 H2 s2 c2
    have h2 := SqT.mono h1 s2
    k_subL
    intro p3 n3
    have s3 : Same H2 _ := Hk.same_upd (o := .tup [.str "and", .ref p1, .ref p2]) n3
    have h3 := SqT.mono h2 s3
    k_subL
    intro p4 H4 s4 c4
    k_subL
    intro p5 n5
    have s5 : Same H4 _ := Hk.same_upd (o := .tup [.str "and", .ref p3, .ref p4]) n5
    refine q p5 _ ((((s1.trans s2).trans s3).trans s4).trans s5) ⟨p5, _, _, rfl, .inl (.inl upd_same), ⟨p3, .ref p1, .ref p2, rfl, ?_, ?_, ?_⟩, c4.mono s5⟩
    · exact SqT.mono (.inl (.inl upd_same)) (s4.trans s5)
    · exact c1.mono (((s2.trans s3).trans s4).trans s5)
    · exact c2.mono ((s3.trans s4).trans s5)
end
end K03


end
section
set_option Elab.async false
set_option linter.all false
set_option maxRecDepth 100000
set_option maxHeartbeats 4000000
/-! ### readings by themselves -/
open PySem PySem.Spec PyProof.Rows L2 in
local macro_rules | `(tactic| k_allIn) => `(tactic| first | (with_reducible assumption) | exact upd_same | (refine Hk.same_upd (by assumption) _ _ ?_; k_allIn) | (refine (upd_ne (by first | assumption | exact Ne.symm (by assumption))).trans ?_; k_allIn))
open PySem PySem.Spec PyProof.Rows L2 in
local macro_rules | `(tactic| k_memK) => `(tactic| first | (with_reducible exact rfl) | (with_reducible assumption) | exact rfl | exact Hk.lk_hd | k_allIn | exact Or.inl (Or.inl (by k_allIn)) | exact ⟨_, rfl⟩ | exact Or.inl ⟨rfl, _, by assumption⟩ | exact Or.inl ⟨rfl, _, Or.inl (Or.inl (by k_allIn))⟩ | exact (fun _ h => h) | exact ClsV.own _ | exact ClsV.ty _ | exact Or.inl ‹_› | exact Or.inr ‹_› | lcg_src | exact Or.inl ⟨by omega, by omega⟩ | exact Or.inr ⟨by omega, by omega⟩ | exact ⟨by omega, by omega⟩ | exact Nat.le_of_lt (small1000 (by simp)) | exact small1000 (by simp) | exact Nat.le_of_lt (small1000 (by omega)) | exact small1000 (by omega) | omega | assumption | decide +kernel)
local macro_rules | `(tactic| lcg_sub) => `(tactic| (refine And.intro ?_ ?_; k_memK))
local macro_rules | `(tactic| k_subL) => `(tactic| (repeat (first | (apply Exists.intro) | lcg_sub | (refine Or.inl ⟨_, rfl, ?_⟩) | (refine Or.inr ⟨_, rfl, ?_⟩))))
namespace K03
open PySem PySem.Spec PyProof.Rows L2
open He (ga ma ba)
local macro_rules | `(tactic| lcg_src) => `(tactic| first | (refine TruthAt.mono ?_ (by assumption); with_reducible assumption) | (refine CdAt.mono (by assumption) ?_; with_reducible assumption) | (refine RowAt.mono ?_ (by assumption); with_reducible assumption))
theorem Cd.dep_pos' : ∀ c : Cd, 1 ≤ c.dep := by
  intro c
  cases c <;> unfold Cd.dep <;> omega
def sp_Ltruth (K : PySem.W.Frag) (n : Nat) : Sp := fun vs H Q _ => ∃ c cd r row, vs = [c, r] ∧ CdAt K H cd c ∧ RowAt K H row r ∧ cd.good ∧ cd.dep ≤ n ∧ Q (.int (ev row cd)) H
section
variable {P : Program} {w : World} {K : PySem.W.Frag} {mg : Str → Option Value} {base : Heap}
theorem Ltruth_step (T : Txt K mg) (n : Nat) (G : Hk.GOk P w K mg base CX0 n "_law_truth" ["_law_condition_here", "_law_row_here"] (sp_Ltruth K n)) : Hk.GOk P w K mg base CX0 (n+1) "_law_truth" ["_law_condition_here", "_law_row_here"] (sp_Ltruth K (n+1)) := by
  refine Hk.mkG T.g__law_truth T.f_Ltruth (fun _ _ _ _ _ _ us hl => match us, hl with | [_, _], _ => rfl) sc_Ltruth (fun vs H Q E h => ?_) (fun cdv A outer s H vs Q E hr h => ?_)
  · obtain ⟨c, cd, r, row, rfl, _⟩ := h
    rfl
  · obtain ⟨c, cd, r, row, rfl, hc, hrow, hg, hd, q⟩ := h
    obtain ⟨ar, er, hr1, hr3, hr4⟩ := id hrow
    refine ⟨_, (pss_cons (ps_set (i := 2) sc_Ltruth.nd rfl (.inl rfl) (pe_ix ix_tup (pv 0) pe_int (fun _ _ => rfl)))
      (pss_cons (ps_if (pt_cmpR op_eq (pv 2) pe_str (nomark _))
        (pss_one (ps_ret pe_int))
        pss_nil)
      (pss_cons (ps_if (pt_cmpR op_eq (pv 2) pe_str (nomark _))
        (pss_cons (ps_set (i := 3) sc_Ltruth.nd rfl (.inl rfl) (Hk.pe_g G hr pass0 (pa_cons (pe_ix ix_tup (pv 0) pe_int (fun _ _ => rfl)) (pa_cons (pv 1) pa_nil))))
        (pss_one (ps_ret (pe_ifExp (pt_cmpR op_eq (pv 3) pe_int (nomark _)) pe_int (pe_op op_sub pe_int (pv 3))))))
        pss_nil)
      (pss_cons (ps_if (PW.pt (pw_or (pt_cmpR op_eq (pv 2) pe_str (nomark _)) (pw_or1 (pt_cmpR op_eq (pv 2) pe_str (nomark _)))))
        (pss_cons (ps_set (i := 4) sc_Ltruth.nd rfl (.inl rfl) (pe_ifExp (pt_cmpR op_eq (pv 2) pe_str (nomark _)) pe_int pe_int))
        (pss_cons (ps_set (i := 5) sc_Ltruth.nd rfl (.inl rfl) (Hk.pe_g G hr pass0 (pa_cons (pe_ix ix_tup (pv 0) pe_int (fun _ _ => rfl)) (pa_cons (pv 1) pa_nil))))
        (pss_cons (ps_if (PW.pt (pw_or (pt_cmpR op_eq (pv 5) (pv 4) (nomark _)) (pw_or1 (pt_cmpR op_eq (pv 5) pe_int (nomark _)))))
          (pss_one (ps_ret (pv 5)))
          pss_nil)
        (pss_cons (ps_set (i := 6) sc_Ltruth.nd rfl (.inl rfl) (Hk.pe_g G hr pass0 (pa_cons (pe_ix ix_tup (pv 0) pe_int (fun _ _ => rfl)) (pa_cons (pv 1) pa_nil))))
        (pss_cons (ps_if (PW.pt (pw_or (pt_cmpR op_eq (pv 6) pe_int (nomark _)) (pw_or1 (pt_cmpR op_eq (pv 6) (pv 4) (nomark _)))))
          (pss_one (ps_ret (pv 6)))
          pss_nil)
        (pss_one (ps_ret (pe_ifExp (PW.pt (pw_or (pt_cmpR op_eq (pv 5) pe_int (nomark _)) (pw_or1 (pt_cmpR op_eq (pv 6) pe_int (nomark _))))) pe_int (pv 6)))))))))
        pss_nil)
      (pss_cons (ps_set (i := 7) sc_Ltruth.nd rfl (.inl rfl) (pe_ix ix_tup (pv 1) (pe_ix ix_tup (pv 0) pe_int (fun _ _ => rfl)) (fun _ _ => rfl)))
      (pss_cons (ps_if (pt_cmpR op_eq (pv 2) pe_str (nomark _))
        (pss_cons (ps_set (i := 8) sc_Ltruth.nd rfl (.inl rfl) (pe_ix ix_tup (pv 1) (pe_ix ix_tup (pv 0) pe_int (fun _ _ => rfl)) (fun _ _ => rfl)))
        (pss_cons (ps_if (pt_cmpR op_eq (pv 8) pe_int (nomark _))
          (pss_one (ps_ret pe_int))
          pss_nil)
        (pss_cons (ps_if (PW.pt (pw_or (pt_cmpR op_isN (pv 7) pe_non (nomark _)) (pw_or1 (pt_cmpR op_isN (pv 8) pe_non (nomark _)))))
          (pss_one (ps_ret pe_int))
          pss_nil)
        (pss_one (ps_ret (pe_ifExp (pt_cmpR op_eq (pe_op op_fdivN (pv 7) (pv 8)) (pe_ix ix_tup (pv 0) pe_int (fun _ _ => rfl)) (nomark _)) pe_int pe_int))))))
        pss_nil)
      (pss_cons (ps_if (pt_cmpR op_eq (pv 2) pe_str (nomark _))
        (pss_one (ps_ret (pe_ifExp (pt_cmpR op_isN (pv 7) pe_non (nomark _)) pe_int pe_int)))
        pss_nil)
      (pss_cons (ps_if (pt_cmpR op_isN (pv 7) pe_non (nomark _))
        (pss_one (ps_ret pe_int))
        pss_nil)
      (pss_cons (ps_if (pt_cmpR op_eq (pv 2) pe_str (nomark _))
        (pss_one (ps_ret (pe_ifExp (pt_cmpR op_eq (pv 7) (pe_ix ix_tup (pv 0) pe_int (fun _ _ => rfl)) (nomark _)) pe_int pe_int)))
        pss_nil)
      (pss_one (ps_ret (pe_ifExp (pt_cmpR op_lt (pv 7) (pe_ix ix_tup (pv 0) pe_int (fun _ _ => rfl)) (nomark _)) pe_int pe_int)))))))))))), ?_⟩
    cases cd with
    | alw =>
      obtain ⟨a, rfl, h⟩ := hc
      k_subL
      exact q
    | neg x =>
      obtain ⟨a, u, rfl, h, hx⟩ := hc
      k_subL
      refine And.intro (by unfold Cd.dep at hd; omega) ?_
      have q2 : Q (.int (if ev row x = 3 then 3 else 2 - ev row x)) H := q
      dsimp only [gName]
      k_subL
      by_cases e : ev row x = 3
      · rw [show decide (V.int (ev row x) = V.int 3) = true from decide_eq_true (congrArg V.int e)]
        rw [if_pos e] at q2
        k_subL
        exact q2
      · rw [show decide (V.int (ev row x) = V.int 3) = false from decide_eq_false fun z => e (V.int.inj z)]
        rw [if_neg e] at q2
        k_subL
        exact q2
    | and x y =>
      obtain ⟨a, u, t, rfl, h, hx, hy⟩ := hc
      obtain ⟨hgx, hgy⟩ := hg
      have rx := ev_range row x
      have ry := ev_range row y
      have q2 : Q (.int (if ev row x = 0 ∨ ev row x = 3 then ev row x else if ev row y = 3 ∨ ev row y = 0 then ev row y else if ev row x = 1 ∨ ev row y = 1 then 1 else ev row y)) H := q
      clear q
      k_subL
      refine And.intro (by unfold Cd.dep at hd; omega) ?_
      have hdy : y.dep ≤ n := by unfold Cd.dep at hd; omega
      dsimp only [gName]
      generalize ev row x = l at q2 rx ⊢
      obtain ⟨rx0, rx1⟩ := rx
      obtain ⟨ry0, ry1⟩ := ry
      obtain rfl | rfl | rfl | rfl : l = 0 ∨ l = 1 ∨ l = 2 ∨ l = 3 := by omega
      all_goals clear rx0 rx1
      all_goals first | (k_subL; exact q2) | skip
      all_goals k_subL
      all_goals dsimp only [gName]
      all_goals generalize ev row y = t at q2 ry0 ry1 ⊢
      all_goals obtain rfl | rfl | rfl | rfl : t = 0 ∨ t = 1 ∨ t = 2 ∨ t = 3 := by omega
      all_goals (k_subL; exact q2)
    | or x y =>
      obtain ⟨a, u, t, rfl, h, hx, hy⟩ := hc
      obtain ⟨hgx, hgy⟩ := hg
      have rx := ev_range row x
      have ry := ev_range row y
      have q2 : Q (.int (if ev row x = 2 ∨ ev row x = 3 then ev row x else if ev row y = 3 ∨ ev row y = 2 then ev row y else if ev row x = 1 ∨ ev row y = 1 then 1 else ev row y)) H := q
      clear q
      k_subL
      refine And.intro (by unfold Cd.dep at hd; omega) ?_
      have hdy : y.dep ≤ n := by unfold Cd.dep at hd; omega
      dsimp only [gName]
      generalize ev row x = l at q2 rx ⊢
      obtain ⟨rx0, rx1⟩ := rx
      obtain ⟨ry0, ry1⟩ := ry
      obtain rfl | rfl | rfl | rfl : l = 0 ∨ l = 1 ∨ l = 2 ∨ l = 3 := by omega
      all_goals clear rx0 rx1
      all_goals first | (k_subL; exact q2) | skip
      all_goals k_subL
      all_goals dsimp only [gName]
      all_goals generalize ev row y = t at q2 ry0 ry1 ⊢
      all_goals obtain rfl | rfl | rfl | rfl : t = 0 ∨ t = 1 ∨ t = 2 ∨ t = 3 := by omega
      all_goals (k_subL; exact q2)
    | unk i =>
      obtain ⟨a, rfl, h⟩ := hc
      obtain ⟨g0, g1⟩ := hg
      have ra := row_at hr3 g0 g1
      subst er
      have q2 : Q (.int (if cell row i = none then 2 else 0)) H := q
      clear q
      generalize cell row i = z at ra q2
      cases z with
      | none =>
        k_subL
        exact q2
      | some x =>
        k_subL
        exact q2
    | quo i j k =>
      obtain ⟨a, rfl, h⟩ := hc
      obtain ⟨⟨g0, g1⟩, ⟨g2, g3⟩⟩ := hg
      have ra := row_at hr3 g0 g1
      have rb := row_at hr3 g2 g3
      have lw : ∀ n, cell row j = some n → 0 ≤ n ∧ n ≤ 2 := fun n => cell_low hr4
      have q2 : Q (.int (if cell row j = some 0 then 3 else match cell row i, cell row j with
        | some x, some y => if x.fdiv y = k then 2 else 0
        | _, _ => 1)) H := q
      clear q
      subst er
      generalize cell row i = x at ra q2
      generalize cell row j = y at rb q2 lw
      cases y with
      | none =>
        cases x with
        | none =>
          k_subL
          exact q2
        | some x =>
          k_subL
          exact q2
      | some y =>
        by_cases e : y = 0
        · subst e
          k_subL
          exact q2
        · have e2 : ¬ (some y = some (0 : Int)) := fun z => e (Option.some.inj z)
          rw [if_neg e2] at q2
          have e' : ¬ (V.int y = V.int 0) := fun z => e (V.int.inj z)
          k_subL
          rw [show decide (cellV (some y) = V.int 0) = false from decide_eq_false e']
          cases x with
          | none =>
            k_subL
            exact q2
          | some x =>
            have hd : CDivN x y := by have := lw y rfl; exact ⟨e, by omega⟩
            have q3 : Q (.int (if x.fdiv y = k then 2 else 0)) H := q2
            k_subL
            by_cases e3 : x.fdiv y = k
            · rw [if_pos e3] at q3
              rw [show decide (V.int (x.fdiv y) = V.int k) = true from decide_eq_true (congrArg V.int e3)]
              k_subL
              exact q3
            · rw [if_neg e3] at q3
              rw [show decide (V.int (x.fdiv y) = V.int k) = false from decide_eq_false fun z => e3 (V.int.inj z)]
              k_subL
              exact q3
    | eql i k =>
      obtain ⟨a, rfl, h⟩ := hc
      obtain ⟨g0, g1⟩ := hg
      have ra := row_at hr3 g0 g1
      subst er
      have q2 : Q (.int (match cell row i with
        | none => 1
        | some x => if x = k then 2 else 0)) H := q
      clear q
      generalize cell row i = z at ra q2
      cases z with
      | none =>
        k_subL
        exact q2
      | some x =>
        have q3 : Q (.int (if x = k then 2 else 0)) H := q2
        k_subL
        by_cases e3 : x = k
        · rw [if_pos e3] at q3
          rw [show decide (cellV (some x) = V.int k) = true from decide_eq_true (congrArg V.int e3)]
          k_subL
          exact q3
        · rw [if_neg e3] at q3
          rw [show decide (cellV (some x) = V.int k) = false from decide_eq_false fun z => e3 (V.int.inj z)]
          k_subL
          exact q3
    | lss i k =>
      obtain ⟨a, rfl, h⟩ := hc
      obtain ⟨g0, g1⟩ := hg
      have ra := row_at hr3 g0 g1
      subst er
      have q2 : Q (.int (match cell row i with
        | none => 1
        | some x => if x < k then 2 else 0)) H := q
      clear q
      generalize cell row i = z at ra q2
      cases z with
      | none =>
        k_subL
        exact q2
      | some x =>
        have q3 : Q (.int (if x < k then 2 else 0)) H := q2
        k_subL
        by_cases e3 : x < k
        · rw [if_pos e3] at q3
          rw [decide_eq_true e3]
          k_subL
          exact q3
        · rw [if_neg e3] at q3
          rw [decide_eq_false e3]
          k_subL
          exact q3
theorem ok_Ltruth (T : Txt K mg) : ∀ n, Hk.GOk P w K mg base CX0 n "_law_truth" ["_law_condition_here", "_law_row_here"] (sp_Ltruth K n)
  | 0 => by
    obtain ⟨fd, F⟩ := T.f_Ltruth
    refine ⟨T.g__law_truth, fd, F.kp, F.bindsN (fun _ _ _ _ _ _ us hl => match us, hl with | [_, _], _ => rfl), ⟨fun vs H Q E h => ?_, fun A outer s H args us vs Q E _ _ _ _ h => ?_⟩⟩
    · obtain ⟨c, cd, r, row, _, _, _, _, hd, _⟩ := h
      have := cd.dep_pos'
      omega
    · obtain ⟨c, cd, r, row, _, _, _, _, hd, _⟩ := h
      have := cd.dep_pos'
      omega
  | n + 1 => Ltruth_step T n (ok_Ltruth T n)
end
end K03


end
section
set_option Elab.async false
set_option linter.all false
set_option maxRecDepth 100000
set_option maxHeartbeats 4000000
/-! ### readings by themselves -/
open PySem PySem.Spec PyProof.Rows L2 in
local macro_rules | `(tactic| k_allIn) => `(tactic| first | (with_reducible assumption) | exact upd_same | (refine Hk.same_upd (by assumption) _ _ ?_; k_allIn) | (refine (upd_ne (by first | assumption | exact Ne.symm (by assumption))).trans ?_; k_allIn))
open PySem PySem.Spec PyProof.Rows L2 in
local macro_rules | `(tactic| k_memK) => `(tactic| first | (with_reducible exact rfl) | (with_reducible assumption) | exact rfl | exact Hk.lk_hd | k_allIn | exact Or.inl (Or.inl (by k_allIn)) | exact ⟨_, rfl⟩ | exact Or.inl ⟨rfl, _, by assumption⟩ | exact Or.inl ⟨rfl, _, Or.inl (Or.inl (by k_allIn))⟩ | exact (fun _ h => h) | exact ClsV.own _ | exact ClsV.ty _ | exact Or.inl ‹_› | exact Or.inr ‹_› | lcg_src | exact Or.inl ⟨by omega, by omega⟩ | exact Or.inr ⟨by omega, by omega⟩ | exact ⟨by omega, by omega⟩ | exact Nat.le_of_lt (small1000 (by simp)) | exact small1000 (by simp) | exact Nat.le_of_lt (small1000 (by omega)) | exact small1000 (by omega) | omega | assumption | decide +kernel)
local macro_rules | `(tactic| lcg_sub) => `(tactic| (refine And.intro ?_ ?_; k_memK))
local macro_rules | `(tactic| k_subL) => `(tactic| (repeat (first | (apply Exists.intro) | lcg_sub | (refine Or.inl ⟨_, rfl, ?_⟩) | (refine Or.inr ⟨_, rfl, ?_⟩))))
namespace K03
open PySem PySem.Spec PyProof.Rows L2
open He (ga ma ba)
local macro_rules | `(tactic| lcg_src) => `(tactic| first | (refine TruthAt.mono ?_ (by assumption); with_reducible assumption) | (refine CdAt.mono (by assumption) ?_; with_reducible assumption) | (refine RowAt.mono ?_ (by assumption); with_reducible assumption))
def sp_told (K : PySem.W.Frag) : Sp := fun vs H Q _ => ∃ c cd r row, vs = [c, r] ∧ CdAt K H cd c ∧ RowAt K H row r ∧ cd.good ∧ cd.dep ≤ 7 ∧ ∀ H', Same H H' → Q (.int (ev row cd)) H'
section
variable {P : Program} {w : World} {K : PySem.W.Frag} {mg : Str → Option Value} {base : Heap}
theorem ok_told (T : Txt K mg) : Hk.GOk P w K mg base CX0 13 "_law_told" ["_law_condition_here", "_law_row_here"] (sp_told K) := by
  refine Hk.mkG T.g__law_told T.f_told (fun _ _ _ _ _ _ us hl => match us, hl with | [_, _], _ => rfl) sc_told (fun vs H Q E h => ?_) (fun cdv A outer s H vs Q E hr h => ?_)
  · obtain ⟨c, cd, r, row, rfl, _⟩ := h
    rfl
  · obtain ⟨c, cd, r, row, rfl, hc, hrow, hg, hd, q⟩ := h
    have hcl := T.cl_Truth
    have hn := T.n_Truth_rank
    have kk := T.kt_Truth_Truth
    refine ⟨_, (pss_cons (L2N.ps_try_as (i := 3) rfl rfl sc_told.nd rfl rfl ⟨rfl, by decide, .inl T.g_Refusal⟩ Hk.takesN0 (fun W pn xe tk _ => by exact
        (pss_one (ps_set (i := 2) sc_told.nd rfl (.inl rfl) (Hk.pe_gS (ok_truth T 7) (hr.mono (by decide : 12 ≤ 12)) (fun σ => L2N.passAt tk σ) (pa_cons (pv 0) (pa_cons (pv 1) pa_nil)))))) (fun a oe cls d pn hz hf => by exact
        (pss_cons (ps_if (PW.pt (pw_and (pt_val (pe_callB (Hk.call_isEd hz.zc hf) (by rfl) T.z_isinstance (by decide +kernel) (pa_cons (pv 3) (pa_cons (pe_glob (v := .ref (ga K "ZeroDivisor")) (by rfl) T.g_ZeroDivisor rfl) pa_nil)))) (pw_and1 (pt_val (Hk.pe_gH (okH_alike T 2) (L2H.roomH_mark (hr.mono (by decide : 2 ≤ 12)) _) (Hk.hot_suite hz hf) (fun σ => Hk.passA0 (E := E0) σ) (pa_cons (pe_xf T.xf_ZeroDivisor T.nx_ZeroDivisor_told hz.zc hf (pv 3)) (pa_cons (pe_tup (pa_cons pe_str (pa_cons pe_str pa_nil))) pa_nil)))))))
          (pss_one (ps_ret pe_int))
          pss_nil)
        (pss_one (ps_ret pe_int)))))
      (pss_cons (ps_if (pt_not (pt_val (pe_callB call_isi (by rfl) T.z_isinstance (by decide +kernel) (pa_cons (pv 2) (pa_cons (pe_glob (v := .ref (ga K "Truth")) (by rfl) T.g_Truth rfl) pa_nil)))))
        (pss_one (ps_ret pe_int))
        pss_nil)
      (pss_one (ps_ret (pe_fld (pv 2) rfl))))), ?_⟩
    k_subL
    have e0 := T.k_ZeroDivisor_Refusal
    have e1 := T.ec_ZeroDivisor
    have e2 := T.kt_ZeroDivisor_ZeroDivisor
    have evv : ∀ (x : Str) (u : Value), L2.RelV (.ref (ga K x)) u → u = .ref (ga K x) := fun _ _ h => h
    refine And.intro (fun e d p H1 s1 hd1 hp1 => ⟨true, e0, fun _ a na => ?_, nofun⟩) (fun e a H1 s1 t1 => ?_)
    · k_subL
      intro p2 np2
      have hp2 := SqT.mono hp1 (Hk.same_upd (o := .tup [.str "refused", .str "zero"]) np2)
      have hq2 : SqT K (upd H1 p2 (.tup [.str "refused", .str "zero"])) p2 [.str "refused", .str "zero"] := .inl (.inl upd_same)
      have dp1 : Dp K (upd H1 p2 (.tup [.str "refused", .str "zero"])) (.ref p) (.tuple [.str "refused", .str "zero"]) := .tup hp2 (.cons (.str _) (.cons (.str _) .nil))
      have dp2 : Dp K (upd H1 p2 (.tup [.str "refused", .str "zero"])) (.ref p2) (.tuple [.str "refused", .str "zero"]) := .tup hq2 (.cons (.str _) (.cons (.str _) .nil))
      have hft : fits 2 (.tuple [.str "refused", .str "zero"]) = true := by decide +kernel
      k_subL
      rw [e] at q
      exact q _ (s1.trans (Hk.same_upd np2))
    · obtain ⟨dx, et⟩ := id t1
      have ti := T.i_Truth.ty et
      k_subL
      exact q _ s1
end
end K03


end
section
set_option Elab.async false
set_option linter.all false
set_option maxRecDepth 100000
set_option maxHeartbeats 4000000
/-! ### readings by themselves -/
open PySem PySem.Spec PyProof.Rows L2 in
local macro_rules | `(tactic| k_allIn) => `(tactic| first | (with_reducible assumption) | exact upd_same | (refine Hk.same_upd (by assumption) _ _ ?_; k_allIn) | (refine (upd_ne (by first | assumption | exact Ne.symm (by assumption))).trans ?_; k_allIn))
open PySem PySem.Spec PyProof.Rows L2 in
local macro_rules | `(tactic| k_memK) => `(tactic| first | (with_reducible exact rfl) | (with_reducible assumption) | exact rfl | exact Hk.lk_hd | k_allIn | exact Or.inl (Or.inl (by k_allIn)) | exact ⟨_, rfl⟩ | exact Or.inl ⟨rfl, _, by assumption⟩ | exact Or.inl ⟨rfl, _, Or.inl (Or.inl (by k_allIn))⟩ | exact (fun _ h => h) | exact ClsV.own _ | exact ClsV.ty _ | exact Or.inl ‹_› | exact Or.inr ‹_› | lcg_src | exact Or.inl ⟨by omega, by omega⟩ | exact Or.inr ⟨by omega, by omega⟩ | exact ⟨by omega, by omega⟩ | exact Nat.le_of_lt (small1000 (by simp)) | exact small1000 (by simp) | exact Nat.le_of_lt (small1000 (by omega)) | exact small1000 (by omega) | omega | assumption | decide +kernel)
local macro_rules | `(tactic| lcg_sub) => `(tactic| (refine And.intro ?_ ?_; k_memK))
local macro_rules | `(tactic| k_subL) => `(tactic| (repeat (first | (apply Exists.intro) | lcg_sub | (refine Or.inl ⟨_, rfl, ?_⟩) | (refine Or.inr ⟨_, rfl, ?_⟩))))
namespace K03
open PySem PySem.Spec PyProof.Rows L2
open He (ga ma ba)
theorem SqT.but {K : PySem.W.Frag} {H H' : Hp} {a b l : Addr} {xs : List V} (h : SqT K H a xs) (B : BoxAt H b l) (s : SameBut b H H') : SqT K H' a xs := by
  obtain ⟨ns, i, m, c, g, B⟩ := B
  rcases h with (h | ⟨o, h⟩) | h
  · exact .inl (.inl (s _ _ h (ne_of h B.hb (by intro z; cases z))))
  · exact .inl (.inr ⟨o, s _ _ h (ne_of h B.hb (by intro z; cases z))⟩)
  · exact .inr h
theorem CdAt.but {K : PySem.W.Frag} {H H' : Hp} {b l : Addr} (B : BoxAt H b l) (s : SameBut b H H') : ∀ {c : Cd} {v : V}, CdAt K H c v → CdAt K H' c v
  | .eql .., _, ⟨a, e, h⟩ => ⟨a, e, SqT.but h B s⟩
  | .lss .., _, ⟨a, e, h⟩ => ⟨a, e, SqT.but h B s⟩
  | .unk .., _, ⟨a, e, h⟩ => ⟨a, e, SqT.but h B s⟩
  | .alw, _, ⟨a, e, h⟩ => ⟨a, e, SqT.but h B s⟩
  | .quo .., _, ⟨a, e, h⟩ => ⟨a, e, SqT.but h B s⟩
  | .neg _, _, ⟨a, u, e, h, k⟩ => ⟨a, u, e, SqT.but h B s, CdAt.but B s k⟩
  | .and .., _, ⟨a, u, t, e, h, k, l⟩ => ⟨a, u, t, e, SqT.but h B s, CdAt.but B s k, CdAt.but B s l⟩
  | .or .., _, ⟨a, u, t, e, h, k, l⟩ => ⟨a, u, t, e, SqT.but h B s, CdAt.but B s k, CdAt.but B s l⟩
theorem RowAt.but {K : PySem.W.Frag} {H H' : Hp} {b l : Addr} {r : List (Option Int)} {v : V} (h : RowAt K H r v) (B : BoxAt H b l) (s : SameBut b H H') : RowAt K H' r v :=
  let ⟨a, e, h, l⟩ := h
  ⟨a, e, SqT.but h B s, l⟩
def sp_row (K : PySem.W.Frag) : Sp := fun vs H Q _ => ∃ b l, vs = [.ref b] ∧ BoxAt H b l ∧ ∀ p row H', RowAt K H' row p → BoxAt H' b l → SameBut b H H' → Q p H'
def sp_condition (K : PySem.W.Frag) (n : Nat) : Sp := fun vs H Q _ => ∃ b l m, vs = [.ref b, .int m, .int 1] ∧ m = (n : Int) ∧ BoxAt H b l ∧ 1 ≤ n ∧ ∀ p cd H', CdAt K H' cd p → cd.good → cd.dep ≤ n → BoxAt H' b l → SameBut b H H' → Q p H'
section
variable {P : Program} {w : World} {K : PySem.W.Frag} {mg : Str → Option Value} {base : Heap}
theorem cells6 {k : Nat} {v : V} (h : [V.non, V.int 0, V.int 1, V.int 2, V.int 0, V.int 1][k]? = some v) : ∃ c : Option Int, v = cellV c ∧ ∀ j, c = some j → 0 ≤ j ∧ j ≤ 2 := by
  match k, h with
  | 0, h => cases h; exact ⟨none, rfl, nofun⟩
  | 1, h => cases h; exact ⟨some 0, rfl, fun j e => by cases e; omega⟩
  | 2, h => cases h; exact ⟨some 1, rfl, fun j e => by cases e; omega⟩
  | 3, h => cases h; exact ⟨some 2, rfl, fun j e => by cases e; omega⟩
  | 4, h => cases h; exact ⟨some 0, rfl, fun j e => by cases e; omega⟩
  | 5, h => cases h; exact ⟨some 1, rfl, fun j e => by cases e; omega⟩
  | k + 6, h => simp at h
theorem ok_row (T : Txt K mg) : Hk.GOk P w K mg base CX0 3 "_law_row" ["_law_box_here"] (sp_row K) := by
  refine Hk.mkG T.g__law_row T.f_row (fun _ _ _ _ _ _ us hl => match us, hl with | [_], _ => rfl) sc_row (fun vs H Q E h => ?_) (fun cdv A outer s H vs Q E hr h => ?_)
  · obtain ⟨b, l, rfl, _⟩ := h
    rfl
  · obtain ⟨b, l, rfl, hb, q⟩ := h
    refine ⟨_, (pss_cons (ps_set (i := 1) sc_row.nd rfl (.inl rfl) (pe_tup pa_nil))
      (pss_cons (ps_for PassesOwn.never rfl (pi_range1 (by rfl) T.z_range (pa_cons pe_int pa_nil)) (pg_name (i := 2) sc_row.nd rfl (.inl rfl))
        (pss_one (ps_set (i := 1) sc_row.nd rfl (.inl rfl) (pe_op op_catA (pv 1) (pe_tup (pa_cons (pe_ix ix_tup (pe_tup (pa_cons pe_non (pa_cons pe_int (pa_cons pe_int (pa_cons pe_int (pa_cons pe_int (pa_cons pe_int pa_nil))))))) (Hk.pe_g (ok_draw T) (hr.mono (by decide)) pass0 (pa_cons (pv 0) (pa_cons pe_int pa_nil))) (fun _ _ => rfl)) pa_nil))))))
      (pss_one (ps_ret (pv 1))))), ?_⟩
    k_subL
    intro p np
    dsimp only [gName]
    have hb0 := hb.upd (o := .tup []) np
    have s0 := Same.but (Hk.same_upd (o := .tup []) np) b
    refine Hk.seq_rest (fun σ' H' => ∃ p v row, σ' = [some (.ref b), some p, v] ∧ RowAt K H' row p ∧ BoxAt H' b l ∧ SameBut b H H') (fun nx hnx => ?_) ?_
    · refine Hk.tfor_rng (lo := 0) (n := 3) (fun i σ' H' => ∃ p v cs, σ' = [some (.ref b), some (.ref p), v] ∧ SqT K H' p (cs.map cellV) ∧ cs.length = i ∧ low cs ∧ BoxAt H' b l ∧ SameBut b H H') (fun R hR => ?_) ⟨p, none, [], rfl, .inl (.inl upd_same), rfl, nofun, hb0, s0⟩ (fun i σ' H' nx2 hi hp hnx2 => ?_) (fun σ' H' hp => ?_)
      · k_subL
        exact hR
      · obtain ⟨p, v, cs, rfl, hs, hl, hlow, hb1, s1⟩ := hp
        k_subL
        intro q6 n6
        have hb2 := hb1.upd (o := .tup [.non, .int 0, .int 1, .int 2, .int 0, .int 1]) n6
        have s2 := s1.trans (Same.but (Hk.same_upd (o := .tup [.non, .int 0, .int 1, .int 2, .int 0, .int 1]) n6) b)
        have hs2 := SqT.mono hs (Hk.same_upd (o := .tup [.non, .int 0, .int 1, .int 2, .int 0, .int 1]) n6)
        have h6 : SqT K (upd H' q6 (.tup [.non, .int 0, .int 1, .int 2, .int 0, .int 1])) q6 [.non, .int 0, .int 1, .int 2, .int 0, .int 1] := .inl (.inl upd_same)
        k_subL
        intro k H3 k0 k1 hb3 s3
        have h6' := SqT.but h6 hb2 s3
        have hs3 := SqT.but hs2 hb2 s3
        have s3' := s2.trans s3
        obtain ⟨y, hy, hy2⟩ := Hk.atI_of (xs := [V.non, .int 0, .int 1, .int 2, .int 0, .int 1]) k0 k1
        obtain ⟨c, rfl, hc⟩ := cells6 hy2
        k_subL
        intro p2 n2
        have hb4 := hb3.upd (o := .tup [cellV c]) n2
        have s4 := s3'.trans (Same.but (Hk.same_upd (o := .tup [cellV c]) n2) b)
        have hs4 := SqT.mono hs3 (Hk.same_upd (o := .tup [cellV c]) n2)
        have h4 : SqT K (upd H3 p2 (.tup [cellV c])) p2 [cellV c] := .inl (.inl upd_same)
        have hlow2 : low (cs ++ [c]) := fun j hj => by
          rcases List.mem_append.mp hj with hj | hj
          · exact hlow j hj
          · exact hc j (List.mem_singleton.mp hj).symm
        have hlen2 : (cs ++ [c]).length = i + 1 := by rw [List.length_append, hl] <;> rfl
        have hlen3 : (cs.map cellV).length = i := by rw [List.length_map]; exact hl
        have hz : (cs.map cellV).length + [cellV c].length ≤ sizeLine := Nat.le_of_lt (small1000 (by have : [cellV c].length = 1 := rfl; omega))
        k_subL
        refine And.intro (fun e => ?_) (And.intro (fun _ e => nomatch e) (fun e _ p5 n5 => ?_))
        · have e' : cs = [] := List.map_eq_nil_iff.mp e
          subst e'
          exact hnx2 _ _ ⟨_, _, [c], rfl, h4, hlen2, hlow2, hb4, s4⟩
        · refine hnx2 _ _ ⟨_, _, cs ++ [c], rfl, ?_, hlen2, hlow2, hb4.upd n5, s4.trans (Same.but (Hk.same_upd n5) b)⟩
          rw [List.map_append]
          exact .inl (.inl upd_same)
      · obtain ⟨p, v, cs, rfl, hs, hl, hlow, hb1, s1⟩ := hp
        exact hnx _ _ ⟨_, _, cs, rfl, ⟨p, rfl, hs, hl, hlow⟩, hb1, s1⟩
    · rintro σ' H2 ⟨p, v, row, rfl, hrow, hb1, s1⟩
      k_subL
      exact q _ _ _ hrow hb1 s1
theorem ands {k : Nat} {v : V} (h : [V.str "and", V.str "or"][k]? = some v) : v = .str "and" ∨ v = .str "or" := by
  match k, h with
  | 0, h => cases h; exact .inl rfl
  | 1, h => cases h; exact .inr rfl
  | k + 2, h => simp at h
theorem condition_step (T : Txt K mg) (n : Nat) (G : Hk.GOk P w K mg base CX0 (n+1) "_law_condition" ["_law_box_here", "_law_levels", "_law_errs"] (sp_condition K n)) : Hk.GOk P w K mg base CX0 (n+2) "_law_condition" ["_law_box_here", "_law_levels", "_law_errs"] (sp_condition K (n+1)) := by
  refine Hk.mkG T.g__law_condition T.f_condition (fun _ _ _ _ _ _ us hl => match us, hl with | [_, _, _], _ => rfl) sc_condition (fun vs H Q E h => ?_) (fun cdv A outer s H vs Q E hr h => ?_)
  · obtain ⟨b, l, m, rfl, _⟩ := h
    rfl
  · obtain ⟨b, l, m, rfl, hm, hb, hn, q⟩ := h
    refine ⟨_, (pss_cons (ps_set (i := 3) sc_condition.nd rfl (.inl rfl) (Hk.pe_g (ok_draw T) (hr.mono (by omega)) pass0 (pa_cons (pv 0) (pa_cons pe_int pa_nil))))
      (pss_cons (ps_if (PW.pt (pw_and (pt_cmpR op_gt (pv 1) pe_int (nomark _)) (pw_and1 (pt_cmpR op_lt (pv 3) pe_int (nomark _)))))
        (pss_cons (ps_set (i := 3) sc_condition.nd rfl (.inl rfl) (pe_ix ix_tup (pe_tup (pa_cons pe_str (pa_cons pe_str pa_nil))) (pv 3) (fun _ _ => rfl)))
        (pss_one (ps_ret (pe_tup (pa_cons (pv 3) (pa_cons (Hk.pe_g G hr pass0 (pa_cons (pv 0) (pa_cons (pe_op op_sub (pv 1) pe_int) (pa_cons (pv 2) pa_nil)))) (pa_cons (Hk.pe_g G hr pass0 (pa_cons (pv 0) (pa_cons (pe_op op_sub (pv 1) pe_int) (pa_cons (pv 2) pa_nil)))) pa_nil)))))))
        pss_nil)
      (pss_cons (ps_if (PW.pt (pw_and (pt_cmpR op_gt (pv 1) pe_int (nomark _)) (pw_and1 (pt_cmpR op_eq (pv 3) pe_int (nomark _)))))
        (pss_one (ps_ret (pe_tup (pa_cons pe_str (pa_cons (Hk.pe_g G hr pass0 (pa_cons (pv 0) (pa_cons (pe_op op_sub (pv 1) pe_int) (pa_cons (pv 2) pa_nil)))) pa_nil)))))
        pss_nil)
      (pss_cons (ps_set (i := 4) sc_condition.nd rfl (.inl rfl) (Hk.pe_g (ok_draw T) (hr.mono (by omega)) pass0 (pa_cons (pv 0) (pa_cons pe_int pa_nil))))
      (pss_cons (ps_set (i := 3) sc_condition.nd rfl (.inl rfl) (Hk.pe_g (ok_draw T) (hr.mono (by omega)) pass0 (pa_cons (pv 0) (pa_cons (pe_op op_add pe_int (pe_op op_mul pe_int (pv 2))) pa_nil))))
      (pss_cons (ps_if (pt_cmpR op_lt (pv 3) pe_int (nomark _))
        (pss_one (ps_ret (pe_tup (pa_cons pe_str (pa_cons (pv 4) (pa_cons (Hk.pe_g (ok_draw T) (hr.mono (by omega)) pass0 (pa_cons (pv 0) (pa_cons pe_int pa_nil))) pa_nil))))))
        pss_nil)
      (pss_cons (ps_if (pt_cmpR op_eq (pv 3) pe_int (nomark _))
        (pss_one (ps_ret (pe_tup (pa_cons pe_str (pa_cons (pv 4) (pa_cons (Hk.pe_g (ok_draw T) (hr.mono (by omega)) pass0 (pa_cons (pv 0) (pa_cons pe_int pa_nil))) pa_nil))))))
        pss_nil)
      (pss_cons (ps_if (pt_cmpR op_lt (pv 3) pe_int (nomark _))
        (pss_one (ps_ret (pe_tup (pa_cons pe_str (pa_cons (pv 4) pa_nil)))))
        pss_nil)
      (pss_cons (ps_if (pt_cmpR op_eq (pv 3) pe_int (nomark _))
        (pss_one (ps_ret (pe_tup (pa_cons pe_str pa_nil))))
        pss_nil)
      (pss_one (ps_ret (pe_tup (pa_cons pe_str (pa_cons (pv 4) (pa_cons (Hk.pe_g (ok_draw T) (hr.mono (by omega)) pass0 (pa_cons (pv 0) (pa_cons pe_int pa_nil))) (pa_cons (Hk.pe_g (ok_draw T) (hr.mono (by omega)) pass0 (pa_cons (pv 0) (pa_cons pe_int pa_nil))) pa_nil)))))))))))))))), ?_⟩
    k_subL
    intro k H1 k0 k1 hb1 s1
    dsimp only [gName]
    refine Hk.seq_skip (fun nx hnx => ?_) ?_
    · k_subL
      by_cases hn1 : n = 0
      · rw [show decide ((1 : Int) < m) = false from decide_eq_false (by omega)]
        k_subL
        exact hnx
      · rw [show decide ((1 : Int) < m) = true from decide_eq_true (by omega)]
        have hn2 : 1 ≤ n := by omega
        k_subL
        refine ite2 (fun e => ?_) (fun e => ?_)
        · have e' := of_decide_eq_true e
          k_subL
          intro p2 n2
          have hb2 := hb1.upd (o := .tup [.str "and", .str "or"]) n2
          have s2 := s1.trans (Same.but (Hk.same_upd (o := .tup [.str "and", .str "or"]) n2) b)
          have h2 : SqT K (upd H1 p2 (.tup [.str "and", .str "or"])) p2 [.str "and", .str "or"] := .inl (.inl upd_same)
          obtain ⟨y, hy, hy2⟩ := Hk.atI_of (xs := [V.str "and", .str "or"]) k0 e'
          have hy3 := ands hy2
          k_subL
          intro v3 c3 H3 g3 w3 d3 hb3 s3
          k_subL
          intro v4 c4 H4 g4 w4 d4 hb4 s4
          have g3' := CdAt.but hb3 s4 g3
          k_subL
          intro p5 n5
          have hb5 := hb4.upd (o := .tup [y, v3, v4]) n5
          have s5' : Same H4 _ := Hk.same_upd (o := .tup [y, v3, v4]) n5
          have s5 := ((s2.trans s3).trans s4).trans (Same.but s5' b)
          rcases hy3 with rfl | rfl
          · exact q _ (.and c3 c4) _ ⟨p5, v3, v4, rfl, .inl (.inl upd_same), g3'.mono s5', g4.mono s5'⟩ ⟨w3, w4⟩ (by unfold Cd.dep; omega) hb5 s5
          · exact q _ (.or c3 c4) _ ⟨p5, v3, v4, rfl, .inl (.inl upd_same), g3'.mono s5', g4.mono s5'⟩ ⟨w3, w4⟩ (by unfold Cd.dep; omega) hb5 s5
        · k_subL
          exact hnx
    refine Hk.seq_skip (fun nx hnx => ?_) ?_
    · k_subL
      by_cases hn1 : n = 0
      · rw [show decide ((1 : Int) < m) = false from decide_eq_false (by omega)]
        k_subL
        exact hnx
      · rw [show decide ((1 : Int) < m) = true from decide_eq_true (by omega)]
        have hn2 : 1 ≤ n := by omega
        k_subL
        refine ite2 (fun e => ?_) (fun e => ?_)
        · k_subL
          intro v3 c3 H3 g3 w3 d3 hb3 s3
          k_subL
          intro p5 n5
          have hb5 := hb3.upd (o := .tup [.str "not", v3]) n5
          have s5' : Same H3 _ := Hk.same_upd (o := .tup [.str "not", v3]) n5
          have s5 := (s1.trans s3).trans (Same.but s5' b)
          exact q _ (.neg c3) _ ⟨p5, v3, rfl, .inl (.inl upd_same), g3.mono s5'⟩ w3 (by unfold Cd.dep; omega) hb5 s5
        · k_subL
          exact hnx
    k_subL
    intro c H2 c0 c1 hb2 s2'
    have s2 := s1.trans s2'
    k_subL
    intro d H3 d0 d1 hb3 s3'
    have s3 := s2.trans s3'
    k_subL
    refine ite2 (fun e => ?_) (fun e => ?_)
    · k_subL
      intro x H4 x0 x1 hb4 s4
      k_subL
      intro p5 n5
      exact q _ (.eql c x) _ ⟨p5, rfl, .inl (.inl upd_same)⟩ ⟨c0, c1⟩ (by unfold Cd.dep; omega) (hb4.upd n5) ((s3.trans s4).trans (Same.but (Hk.same_upd n5) b))
    k_subL
    refine ite2 (fun e => ?_) (fun e => ?_)
    · k_subL
      intro x H4 x0 x1 hb4 s4
      k_subL
      intro p5 n5
      exact q _ (.lss c x) _ ⟨p5, rfl, .inl (.inl upd_same)⟩ ⟨c0, c1⟩ (by unfold Cd.dep; omega) (hb4.upd n5) ((s3.trans s4).trans (Same.but (Hk.same_upd n5) b))
    k_subL
    refine ite2 (fun e => ?_) (fun e => ?_)
    · k_subL
      intro p5 n5
      exact q _ (.unk c) _ ⟨p5, rfl, .inl (.inl upd_same)⟩ ⟨c0, c1⟩ (by unfold Cd.dep; omega) (hb3.upd n5) (s3.trans (Same.but (Hk.same_upd n5) b))
    k_subL
    refine ite2 (fun e => ?_) (fun e => ?_)
    · k_subL
      intro p5 n5
      exact q _ .alw _ ⟨p5, rfl, .inl (.inl upd_same)⟩ trivial (by unfold Cd.dep; omega) (hb3.upd n5) (s3.trans (Same.but (Hk.same_upd n5) b))
    k_subL
    intro x H4 x0 x1 hb4 s4
    k_subL
    intro y H5 y0 y1 hb5 s5
    k_subL
    intro p5 n5
    exact q _ (.quo c x y) _ ⟨p5, rfl, .inl (.inl upd_same)⟩ ⟨⟨c0, c1⟩, ⟨x0, x1⟩⟩ (by unfold Cd.dep; omega) (hb5.upd n5) (((s3.trans s4).trans s5).trans (Same.but (Hk.same_upd n5) b))
theorem ok_condition (T : Txt K mg) : ∀ n, Hk.GOk P w K mg base CX0 (n+1) "_law_condition" ["_law_box_here", "_law_levels", "_law_errs"] (sp_condition K n)
  | 0 => by
    obtain ⟨fd, F⟩ := T.f_condition
    refine ⟨T.g__law_condition, fd, F.kp, F.bindsN (fun _ _ _ _ _ _ us hl => match us, hl with | [_, _, _], _ => rfl), ⟨fun vs H Q E h => ?_, fun A outer s H args us vs Q E _ _ _ _ h => ?_⟩⟩
    · obtain ⟨b, l, m, _, _, _, hd, _⟩ := h
      omega
    · obtain ⟨b, l, m, _, _, _, hd, _⟩ := h
      omega
  | n + 1 => condition_step T n (ok_condition T n)
end
end K03


end
section
set_option Elab.async false
set_option linter.all false
set_option maxRecDepth 100000
set_option maxHeartbeats 4000000
/-! ### readings by themselves -/
open PySem PySem.Spec PyProof.Rows L2 in
local macro_rules | `(tactic| k_allIn) => `(tactic| first | (with_reducible assumption) | exact upd_same | (refine Hk.same_upd (by assumption) _ _ ?_; k_allIn) | (refine (upd_ne (by first | assumption | exact Ne.symm (by assumption))).trans ?_; k_allIn))
open PySem PySem.Spec PyProof.Rows L2 in
local macro_rules | `(tactic| k_memK) => `(tactic| first | (with_reducible exact rfl) | (with_reducible assumption) | exact rfl | exact Hk.lk_hd | k_allIn | exact Or.inl (Or.inl (by k_allIn)) | exact ⟨_, rfl⟩ | exact Or.inl ⟨rfl, _, by assumption⟩ | exact Or.inl ⟨rfl, _, Or.inl (Or.inl (by k_allIn))⟩ | exact (fun _ h => h) | exact ClsV.own _ | exact ClsV.ty _ | exact Or.inl ‹_› | exact Or.inr ‹_› | lcg_src | exact Or.inl ⟨by omega, by omega⟩ | exact Or.inr ⟨by omega, by omega⟩ | exact ⟨by omega, by omega⟩ | exact Nat.le_of_lt (small1000 (by simp)) | exact small1000 (by simp) | exact Nat.le_of_lt (small1000 (by omega)) | exact small1000 (by omega) | omega | assumption | decide +kernel)
local macro_rules | `(tactic| lcg_sub) => `(tactic| (refine And.intro ?_ ?_; k_memK))
local macro_rules | `(tactic| k_subL) => `(tactic| (repeat (first | (apply Exists.intro) | lcg_sub | (refine Or.inl ⟨_, rfl, ?_⟩) | (refine Or.inr ⟨_, rfl, ?_⟩))))
namespace K03
open PySem PySem.Spec PyProof.Rows L2
open He (ga ma ba)
/-- a wrap stands at v: a number and a condition of one level -/
def WrapAt (K : PySem.W.Frag) (H : Hp) (v : V) : Prop := ∃ a k u c, v = .ref a ∧ SqT K H a [.int k, u] ∧ CdAt K H c u ∧ c.good ∧ c.dep ≤ 1
theorem WrapAt.mono {K : PySem.W.Frag} {H H' : Hp} {v : V} (h : WrapAt K H v) (s : Same H H') : WrapAt K H' v :=
  let ⟨a, k, u, c, e, h1, h2, h3⟩ := h
  ⟨a, k, u, c, e, SqT.mono h1 s, CdAt.mono s h2, h3⟩
theorem WrapAt.but {K : PySem.W.Frag} {H H' : Hp} {b l : Addr} {v : V} (h : WrapAt K H v) (B : BoxAt H b l) (s : SameBut b H H') : WrapAt K H' v :=
  let ⟨a, k, u, c, e, h1, h2, h3⟩ := h
  ⟨a, k, u, c, e, SqT.but h1 B s, CdAt.but B s h2, h3⟩
theorem SqT.set {K : PySem.W.Frag} {H : Hp} {a D : Addr} {xs ys : List V} {o : HO} (h : SqT K H a xs) (e : H D = some (.lst ys)) : SqT K (upd H D o) a xs := by
  rcases h with (h | ⟨u, h⟩) | h
  · exact .inl (.inl (by rw [upd_ne (ne_of h e (by intro z; cases z))]; exact h))
  · exact .inl (.inr ⟨u, by rw [upd_ne (ne_of h e (by intro z; cases z))]; exact h⟩)
  · exact .inr h
theorem CdAt.set {K : PySem.W.Frag} {H : Hp} {D : Addr} {ys : List V} {o : HO} (e : H D = some (.lst ys)) : ∀ {c : Cd} {v : V}, CdAt K H c v → CdAt K (upd H D o) c v
  | .eql .., _, ⟨a, q, h⟩ => ⟨a, q, SqT.set h e⟩
  | .lss .., _, ⟨a, q, h⟩ => ⟨a, q, SqT.set h e⟩
  | .unk .., _, ⟨a, q, h⟩ => ⟨a, q, SqT.set h e⟩
  | .alw, _, ⟨a, q, h⟩ => ⟨a, q, SqT.set h e⟩
  | .quo .., _, ⟨a, q, h⟩ => ⟨a, q, SqT.set h e⟩
  | .neg _, _, ⟨a, u, q, h, k⟩ => ⟨a, u, q, SqT.set h e, CdAt.set e k⟩
  | .and .., _, ⟨a, u, t, q, h, k, l⟩ => ⟨a, u, t, q, SqT.set h e, CdAt.set e k, CdAt.set e l⟩
  | .or .., _, ⟨a, u, t, q, h, k, l⟩ => ⟨a, u, t, q, SqT.set h e, CdAt.set e k, CdAt.set e l⟩
theorem WrapAt.set {K : PySem.W.Frag} {H : Hp} {D : Addr} {ys : List V} {o : HO} {v : V} (h : WrapAt K H v) (e : H D = some (.lst ys)) : WrapAt K (upd H D o) v :=
  let ⟨a, k, u, c, q, h1, h2, h3⟩ := h
  ⟨a, k, u, c, q, SqT.set h1 e, CdAt.set e h2, h3⟩
theorem RowAt.set {K : PySem.W.Frag} {H : Hp} {D : Addr} {ys : List V} {o : HO} {r : List (Option Int)} {v : V} (h : RowAt K H r v) (e : H D = some (.lst ys)) : RowAt K (upd H D o) r v :=
  let ⟨a, q, h1, h2⟩ := h
  ⟨a, q, SqT.set h1 e, h2⟩
def sp_wraps (K : PySem.W.Frag) : Sp := fun vs H Q _ => ∃ b l m, vs = [.ref b, .int m] ∧ BoxAt H b l ∧ 0 ≤ m ∧ m < 5 ∧ ∀ p xs H', H' p = some (.lst xs) → (xs.length : Int) = m → (∀ x ∈ xs, WrapAt K H' x) → BoxAt H' b l → SameBut b H H' → Q (.ref p) H'
def sp_wrapped (K : PySem.W.Frag) : Sp := fun vs H Q _ => ∃ x v c, vs = [x, v] ∧ WrapAt K H x ∧ CdAt K H c v ∧ c.good ∧ ∀ p cd H', Same H H' → CdAt K H' cd p → cd.good → cd.dep ≤ c.dep + 1 → Q p H'
section
variable {P : Program} {w : World} {K : PySem.W.Frag} {mg : Str → Option Value} {base : Heap}
theorem Cd.dep_pos2 : ∀ c : Cd, 1 ≤ c.dep := by
  intro c
  cases c <;> unfold Cd.dep <;> omega
theorem ok_wrapped (T : Txt K mg) : Hk.GOk P w K mg base CX0 1 "_law_wrapped" ["_law_wrap", "_law_condition_here"] (sp_wrapped K) := by
  refine Hk.mkG T.g__law_wrapped T.f_wrapped (fun _ _ _ _ _ _ us hl => match us, hl with | [_, _], _ => rfl) sc_wrapped (fun vs H Q E h => ?_) (fun cdv A outer s H vs Q E hr h => ?_)
  · obtain ⟨x, v, c, rfl, _⟩ := h
    rfl
  · obtain ⟨x, v, c, rfl, ⟨a, k, u, cu, rfl, h1, h2, gu, du⟩, hc, hg, q⟩ := h
    refine ⟨_, (pss_cons (ps_if (pt_cmpR op_eq (pe_ix ix_tup (pv 0) pe_int (fun _ _ => rfl)) pe_int (nomark _))
        (pss_one (ps_ret (pe_tup (pa_cons pe_str (pa_cons (pv 1) (pa_cons (pe_ix ix_tup (pv 0) pe_int (fun _ _ => rfl)) pa_nil))))))
        pss_nil)
      (pss_cons (ps_if (pt_cmpR op_eq (pe_ix ix_tup (pv 0) pe_int (fun _ _ => rfl)) pe_int (nomark _))
        (pss_one (ps_ret (pe_tup (pa_cons pe_str (pa_cons (pe_ix ix_tup (pv 0) pe_int (fun _ _ => rfl)) (pa_cons (pv 1) pa_nil))))))
        pss_nil)
      (pss_cons (ps_if (pt_cmpR op_eq (pe_ix ix_tup (pv 0) pe_int (fun _ _ => rfl)) pe_int (nomark _))
        (pss_one (ps_ret (pe_tup (pa_cons pe_str (pa_cons (pv 1) (pa_cons (pe_ix ix_tup (pv 0) pe_int (fun _ _ => rfl)) pa_nil))))))
        pss_nil)
      (pss_cons (ps_if (pt_cmpR op_eq (pe_ix ix_tup (pv 0) pe_int (fun _ _ => rfl)) pe_int (nomark _))
        (pss_one (ps_ret (pe_tup (pa_cons pe_str (pa_cons (pe_ix ix_tup (pv 0) pe_int (fun _ _ => rfl)) (pa_cons (pv 1) pa_nil))))))
        pss_nil)
      (pss_one (ps_ret (pe_tup (pa_cons pe_str (pa_cons (pv 1) pa_nil))))))))), ?_⟩
    have dp := c.dep_pos2
    k_subL
    refine ite2 (fun e => ?_) (fun e => ?_)
    · k_subL
      intro p np
      have s : Same H _ := Hk.same_upd (o := .tup [.str "and", v, u]) np
      exact q _ (.and c cu) _ s ⟨p, _, _, rfl, .inl (.inl upd_same), hc.mono s, h2.mono s⟩ ⟨hg, gu⟩ (by show max c.dep cu.dep + 1 ≤ c.dep + 1; omega)
    k_subL
    refine ite2 (fun e => ?_) (fun e => ?_)
    · k_subL
      intro p np
      have s : Same H _ := Hk.same_upd (o := .tup [.str "or", u, v]) np
      exact q _ (.or cu c) _ s ⟨p, _, _, rfl, .inl (.inl upd_same), h2.mono s, hc.mono s⟩ ⟨gu, hg⟩ (by show max cu.dep c.dep + 1 ≤ c.dep + 1; omega)
    k_subL
    refine ite2 (fun e => ?_) (fun e => ?_)
    · k_subL
      intro p np
      have s : Same H _ := Hk.same_upd (o := .tup [.str "or", v, u]) np
      exact q _ (.or c cu) _ s ⟨p, _, _, rfl, .inl (.inl upd_same), hc.mono s, h2.mono s⟩ ⟨hg, gu⟩ (by show max c.dep cu.dep + 1 ≤ c.dep + 1; omega)
    k_subL
    refine ite2 (fun e => ?_) (fun e => ?_)
    · k_subL
      intro p np
      have s : Same H _ := Hk.same_upd (o := .tup [.str "and", u, v]) np
      exact q _ (.and cu c) _ s ⟨p, _, _, rfl, .inl (.inl upd_same), h2.mono s, hc.mono s⟩ ⟨gu, hg⟩ (by show max cu.dep c.dep + 1 ≤ c.dep + 1; omega)
    k_subL
    intro p np
    have s : Same H _ := Hk.same_upd (o := .tup [.str "not", v]) np
    exact q _ (.neg c) _ s ⟨p, _, rfl, .inl (.inl upd_same), hc.mono s⟩ hg (by show c.dep + 1 ≤ c.dep + 1; omega)
theorem ok_wraps (T : Txt K mg) : Hk.GOk P w K mg base CX0 4 "_law_wraps" ["_law_box_here", "_law_many"] (sp_wraps K) := by
  refine Hk.mkG T.g__law_wraps T.f_wraps (fun _ _ _ _ _ _ us hl => match us, hl with | [_, _], _ => rfl) sc_wraps (fun vs H Q E h => ?_) (fun cdv A outer s H vs Q E hr h => ?_)
  · obtain ⟨b, l, m, rfl, _⟩ := h
    rfl
  · obtain ⟨b, l, m, rfl, hb, m0, m1, q⟩ := h
    refine ⟨_, (pss_one (ps_ret (pe_lc (own := [("_law_k", 2)]) rfl sc_wraps.nd (pi_range1 (by rfl) T.z_range (pa_cons (pv 1) pa_nil)) (blkOk_by (own := [("_law_k", 2)]) (N := ["_law_box_here", "_law_many", "_law_k"]) (sc := defScope s_wraps) (by decide +kernel)) (fun _ _ _ _ _ => pg_name (i := 2) sc_wraps.nd rfl (Or.inl rfl)) (fun _ _ _ _ _ => pts_nil) (fun _ _ _ _ _ => (pe_tup (pa_cons (Hk.pe_g (ok_draw T) (hr.mono (by decide)) pass0 (pa_cons (pv 0) (pa_cons pe_int pa_nil))) (pa_cons (Hk.pe_g (ok_condition T 1) (hr.mono (by decide : 2 ≤ 3)) pass0 (pa_cons (pv 0) (pa_cons pe_int (pa_cons pe_int pa_nil)))) pa_nil))))))), ?_⟩
    k_subL
    intro D nD
    have hbD := hb.upd (o := .lst []) nD
    have sD := Same.but (Hk.same_upd (o := .lst []) nD) b
    have neb := hb.ne nD
    have nel := hb.nel nD
    refine lc_range (Pv := fun i H' => ∃ xs, H' D = some (.lst xs) ∧ xs.length = i ∧ (∀ x ∈ xs, WrapAt K H' x) ∧ BoxAt H' b l ∧ SameBut b H H') ⟨[], upd_same, rfl, nofun, hbD, sD⟩ (fun i H' hi hp => ?_) (fun H' hp => ?_)
    · obtain ⟨xs, hx, hlen, hall, hb1, s1⟩ := hp
      k_subL
      intro k H2 k0 k1 hb2 s2
      k_subL
      intro v c H3 g3 w3 d3 hb3 s3
      k_subL
      intro p4 n4
      have hx3 := s3 _ _ (s2 _ _ hx neb) neb
      have s4 : Same H3 _ := Hk.same_upd (o := .tup [.int k, v]) n4
      have hx4 := s4 _ _ hx3
      have hb4 := hb3.upd (o := .tup [.int k, v]) n4
      have neb4 : D ≠ b := neb
      refine ⟨xs, hx4, small1000 (by omega), xs ++ [.ref p4], upd_same, by rw [List.length_append, hlen] <;> rfl, fun x hx' => ?_, hb4.set neb nel, ?_⟩
      · rcases List.mem_append.mp hx' with hx' | hx'
        · exact ((((hall x hx').but hb1 s2).but hb2 s3).mono s4).set hx4
        · obtain rfl := List.mem_singleton.mp hx'
          exact WrapAt.set ⟨p4, k, v, c, rfl, .inl (.inl upd_same), g3.mono s4, w3, d3⟩ hx4
      · intro y o hy ny
        have hyD : y ≠ D := ne_of_none hy nD
        rw [upd_ne hyD]
        exact s4 _ _ (s3 _ _ (s2 _ _ (s1 _ _ hy ny) ny) ny)
    · obtain ⟨xs, hx, hlen, hall, hb1, s1⟩ := hp
      exact q _ xs _ hx (by omega) hall hb1 s1
end
end K03


end
section
set_option Elab.async false
set_option linter.all false
set_option maxRecDepth 100000
set_option maxHeartbeats 4000000
/-! ### readings by themselves -/
open PySem PySem.Spec PyProof.Rows L2 in
local macro_rules | `(tactic| k_allIn) => `(tactic| first | (with_reducible assumption) | exact upd_same | (refine Hk.same_upd (by assumption) _ _ ?_; k_allIn) | (refine (upd_ne (by first | assumption | exact Ne.symm (by assumption))).trans ?_; k_allIn))
open PySem PySem.Spec PyProof.Rows L2 in
local macro_rules | `(tactic| k_memK) => `(tactic| first | (with_reducible exact rfl) | (with_reducible assumption) | exact rfl | exact Hk.lk_hd | k_allIn | exact Or.inl (Or.inl (by k_allIn)) | exact ⟨_, rfl⟩ | exact Or.inl ⟨rfl, _, by assumption⟩ | exact Or.inl ⟨rfl, _, Or.inl (Or.inl (by k_allIn))⟩ | exact (fun _ h => h) | exact ClsV.own _ | exact ClsV.ty _ | exact Or.inl ‹_› | exact Or.inr ‹_› | lcg_src | exact Or.inl ⟨by omega, by omega⟩ | exact Or.inr ⟨by omega, by omega⟩ | exact ⟨by omega, by omega⟩ | exact Nat.le_of_lt (small1000 (by simp)) | exact small1000 (by simp) | exact Nat.le_of_lt (small1000 (by omega)) | exact small1000 (by omega) | omega | assumption | decide +kernel)
local macro_rules | `(tactic| lcg_sub) => `(tactic| (refine And.intro ?_ ?_; k_memK))
local macro_rules | `(tactic| k_subL) => `(tactic| (repeat (first | (apply Exists.intro) | lcg_sub | (refine Or.inl ⟨_, rfl, ?_⟩) | (refine Or.inr ⟨_, rfl, ?_⟩))))
namespace K03
open PySem PySem.Spec PyProof.Rows L2
open He (ga ma ba)
def sp_every (K : PySem.W.Frag) : Sp := fun vs H Q _ => vs = [] ∧ ∀ p xs H', Same H H' → H' p = some (.lst xs) → xs.length ≤ 64 → (∀ x ∈ xs, ∃ row, RowAt K H' row x) → Q (.ref p) H'
section
variable {P : Program} {w : World} {K : PySem.W.Frag} {mg : Str → Option Value} {base : Heap}
theorem cells4 {k : Nat} {v : V} (h : [V.non, V.int 0, V.int 1, V.int 2][k]? = some v) : ∃ c : Option Int, v = cellV c ∧ ∀ j, c = some j → 0 ≤ j ∧ j ≤ 2 := by
  match k, h with
  | 0, h => cases h; exact ⟨none, rfl, nofun⟩
  | 1, h => cases h; exact ⟨some 0, rfl, fun j e => by cases e; omega⟩
  | 2, h => cases h; exact ⟨some 1, rfl, fun j e => by cases e; omega⟩
  | 3, h => cases h; exact ⟨some 2, rfl, fun j e => by cases e; omega⟩
  | k + 4, h => simp at h
theorem tfor_any {wi : TI} {g : TG} {tb : TS} {D : Ends} {σ : L2.St} {H : Hp} (S : Addr → List V → Hp → Prop) (hw : ∀ R : It → Hp → Prop, (∀ p xs H1, S p xs H1 → R (Itl K p) H1) → wi σ H R) (Pv : Addr → List V → Nat → L2.St → Hp → Prop) (h0 : ∀ p xs H1, S p xs H1 → Pv p xs 0 σ H1)
    (hl : ∀ p xs i σ H, Pv p xs i σ H → SqL K H p xs) (hs : ∀ p xs (i : Nat) x σ H (nx : L2.St → Hp → Prop), xs[i]? = some x → Pv p xs i σ H → (∀ σ' H', Pv p xs (i + 1) σ' H' → nx σ' H') → g x σ H fun σ2 H2 => tb { D with nx := nx, ct := nx, bk := D.nx } σ2 H2)
    (hd : ∀ p xs σ H, Pv p xs xs.length σ H → D.nx σ H) : tFor wi g tb D σ H :=
  hw _ fun p xs H1 hS => for_list (Pv p xs) (h0 p xs H1 hS) (fun i σ H _ h => hl p xs i σ H h) (fun i x σ H hi hp => hs p xs i x σ H _ hi hp fun _ _ q => q) (hd p xs)
def lits : List V := [.non, .int 0, .int 1, .int 2]
structure Rows (K : PySem.W.Frag) (H0 H' : Hp) (D : Addr) (n : Nat) (rows : List V) : Prop where
  at_ : H' D = some (.lst rows)
  ln : rows.length ≤ n
  all : ∀ x ∈ rows, ∃ row, RowAt K H' row x
  sm : Same H0 H'
theorem Rows.same {K : PySem.W.Frag} {H0 H H' : Hp} {D : Addr} {n : Nat} {rows : List V} (R : Rows K H0 H D n rows) (s : Same H H') : Rows K H0 H' D n rows :=
  ⟨s _ _ R.at_, R.ln, fun x h => let ⟨r, hr⟩ := R.all x h; ⟨r, hr.mono s⟩, R.sm.trans s⟩
theorem ok_every (T : Txt K mg) : Hk.GOk P w K mg base CX0 1 "_law_every" [] (sp_every K) := by
  refine Hk.mkG T.g__law_every T.f_every (fun _ _ _ _ _ _ us hl => match us, hl with | [], _ => rfl) sc_every (fun vs H Q E h => ?_) (fun cdv A outer s H vs Q E hr h => ?_)
  · obtain ⟨rfl, _⟩ := h
    rfl
  · obtain ⟨rfl, q⟩ := h
    refine ⟨_, (pss_cons (ps_set (i := 0) sc_every.nd rfl (.inl rfl) (pe_lst pa_nil))
      (pss_cons (ps_for PassesOwn.never rfl (pi_list (pe_lst (pa_cons pe_non (pa_cons pe_int (pa_cons pe_int (pa_cons pe_int pa_nil)))))) (pg_name (i := 1) sc_every.nd rfl (.inr rfl))
        (pss_one (ps_for PassesOwn.never rfl (pi_list (pe_lst (pa_cons pe_non (pa_cons pe_int (pa_cons pe_int (pa_cons pe_int pa_nil)))))) (pg_name (i := 2) sc_every.nd rfl (.inr rfl))
          (pss_one (ps_set (i := 0) sc_every.nd rfl (.inl rfl) (pe_op op_cat (pv 0) (pe_lc (own := [("_law_third", 3)]) rfl sc_every.nd (pi_list (pe_lst (pa_cons pe_non (pa_cons pe_int (pa_cons pe_int (pa_cons pe_int pa_nil)))))) (blkOk_by (own := [("_law_third", 3)]) (N := ["_law_rows", "_law_first", "_law_second", "_law_third"]) (sc := defScope s_every) (by decide +kernel)) (fun _ _ _ _ _ => pg_name (i := 3) sc_every.nd rfl (Or.inl rfl)) (fun _ _ _ _ _ => pts_nil) (fun _ _ _ _ _ => (pe_tup (pa_cons (pv 1) (pa_cons (pv 2) (pa_cons (pv 3) pa_nil))))))))))))
      (pss_one (ps_ret (pv 0))))), ?_⟩
    k_subL
    intro D nD
    dsimp only [gName]
    refine Hk.seq_rest (fun σ' H' => ∃ D v1 v2 rows, σ' = [some (.ref D), v1, v2, none] ∧ Rows K H H' D 64 rows) (fun nx hnx => ?_) ?_
    · refine tfor_any (K := K) (fun p xs H1 => xs = lits ∧ H1 p = some (.lst lits) ∧ Same (upd H D (.lst [])) H1) (fun R hR => ?_) (fun p xs i σ' H' => xs = lits ∧ H' p = some (.lst lits) ∧ ∃ D v1 v2 rows, σ' = [some (.ref D), v1, v2, none] ∧ Rows K H H' D (16 * i) rows) (fun p xs H1 hS => ?_) (fun p xs i σ' H' hp => ?_) (fun p xs i x σ' H' nx2 hi hp hnx2 => ?_) (fun p xs σ' H' hp => ?_)
      · k_subL
        intro p np
        exact ⟨p, rfl, ⟨lits, .inl (.inl upd_same)⟩, hR p lits _ ⟨rfl, upd_same, Hk.same_upd np⟩⟩
      · obtain ⟨rfl, h1, s1⟩ := hS
        exact ⟨rfl, h1, D, none, none, [], rfl, ⟨s1 _ _ upd_same, Nat.le_refl _, nofun, (Hk.same_upd nD).trans s1⟩⟩
      · obtain ⟨rfl, h1, _⟩ := hp
        exact .inl (.inl h1)
      · obtain ⟨rfl, h1, D1, v1, v2, rows, rfl, R1⟩ := hp
        obtain ⟨c1, rfl, hc1⟩ := cells4 hi
        have hi4 : i < 4 := (List.getElem?_eq_some_iff.mp hi).1
        dsimp only [gName]
        refine tfor_any (K := K) (fun p xs H1 => xs = lits ∧ H1 p = some (.lst lits) ∧ Same H' H1) (fun R hR => ?_) (fun p2 xs j σ' H2 => xs = lits ∧ H2 p2 = some (.lst lits) ∧ H2 p = some (.lst lits) ∧ ∃ D v2 rows, σ' = [some (.ref D), some (cellV c1), v2, none] ∧ Rows K H H2 D (16 * i + 4 * j) rows) (fun p2 xs H1 hS => ?_) (fun p2 xs j σ' H' hp => ?_) (fun p2 xs j x σ' H2 nx3 hj hp hnx3 => ?_) (fun p2 xs σ' H2 hp => ?_)
        · k_subL
          intro p np
          exact ⟨p, rfl, ⟨lits, .inl (.inl upd_same)⟩, hR p lits _ ⟨rfl, upd_same, Hk.same_upd np⟩⟩
        · obtain ⟨rfl, h2, s2⟩ := hS
          exact ⟨rfl, h2, s2 _ _ h1, D1, v2, rows, rfl, R1.same s2⟩
        · obtain ⟨rfl, h1, _⟩ := hp
          exact .inl (.inl h1)
        · obtain ⟨rfl, h2, h2p, D2, v2, rows2, rfl, R2⟩ := hp
          obtain ⟨c2, rfl, hc2⟩ := cells4 hj
          have hj4 : j < 4 := (List.getElem?_eq_some_iff.mp hj).1
          have a2 := R2.at_
          k_subL
          intro p3 n3
          have s3 : Same H2 _ := Hk.same_upd (o := .lst lits) n3
          have h3 : SqL K (upd H2 p3 (.lst lits)) p3 lits := .inl (.inl upd_same)
          refine ⟨p3, rfl, ⟨lits, h3⟩, fun D3 nD3 => ?_⟩
          have s4 : Same (upd H2 p3 (.lst lits)) _ := Hk.same_upd (o := .lst []) nD3
          have nDp : p3 ≠ D3 := ne_of_none upd_same nD3
          refine lc_list (K := K) (a := p3) (xs := lits) (Pv := fun k H' => ∃ new, H' D3 = some (.lst new) ∧ new.length = k ∧ (∀ x ∈ new, ∃ row, RowAt K H' row x) ∧ H' p3 = some (.lst lits) ∧ Same H2 H') ⟨[], upd_same, rfl, nofun, s4 _ _ upd_same, s3.trans s4⟩ (fun k H' _ hp => ?_) (fun k x H' hk hp => ?_) (fun H' hp => ?_)
          · obtain ⟨new, n1, n2, n3, n4, n5⟩ := hp
            exact .inl (.inl n4)
          · obtain ⟨new, n1, n2, n3', n4, n5⟩ := hp
            obtain ⟨c3, rfl, hc3⟩ := cells4 hk
            have hk4 : k < 4 := (List.getElem?_eq_some_iff.mp hk).1
            k_subL
            intro p5 n5'
            have s5 : Same H' _ := Hk.same_upd (o := .tup [cellV c1, cellV c2, cellV c3]) n5'
            have d5 := s5 _ _ n1
            have nd5 : p5 ≠ D3 := (ne_of_none n1 n5').symm
            refine ⟨new, d5, small1000 (by omega), new ++ [.ref p5], upd_same, by rw [List.length_append, n2] <;> rfl, fun x hx => ?_, ?_, fun y o hy => ?_⟩
            · rcases List.mem_append.mp hx with hx | hx
              · obtain ⟨r, hr⟩ := n3' x hx
                exact ⟨r, (hr.mono s5).set d5⟩
              · obtain rfl := List.mem_singleton.mp hx
                refine ⟨[c1, c2, c3], RowAt.set ⟨p5, rfl, .inl (.inl upd_same), rfl, fun j hj => ?_⟩ d5⟩
                rcases List.mem_cons.mp hj with hj | hj
                · exact hc1 j hj.symm
                rcases List.mem_cons.mp hj with hj | hj
                · exact hc2 j hj.symm
                · exact hc3 j (List.mem_singleton.mp hj).symm
            · rw [upd_ne nDp]
              exact s5 _ _ n4
            · have hyD : y ≠ D3 := ne_of_none (s3 _ _ hy) nD3
              rw [upd_ne hyD]
              exact s5 _ _ (n5 _ _ hy)
          · obtain ⟨new, n1, n2, n3', n4, n5⟩ := hp
            have a5 := n5 _ _ a2
            have hl4 : lits.length = 4 := rfl
            have R5 := R2.same n5
            have lnn := R2.ln
            have zz : rows2.length + new.length ≤ sizeLine := Nat.le_of_lt (small1000 (by omega))
            k_subL
            intro p6 n6
            have s6 : Same H' _ := Hk.same_upd (o := .lst (rows2 ++ new)) n6
            refine hnx3 _ _ ⟨rfl, s6 _ _ (n5 _ _ h2), s6 _ _ (n5 _ _ h2p), p6, some (cellV c2), rows2 ++ new, rfl, ⟨upd_same, by rw [List.length_append]; omega, fun x hx => ?_, (R2.sm.trans n5).trans s6⟩⟩
            rcases List.mem_append.mp hx with hx | hx
            · obtain ⟨r, hr⟩ := R5.all x hx
              exact ⟨r, hr.mono s6⟩
            · obtain ⟨r, hr⟩ := n3' x hx
              exact ⟨r, hr.mono s6⟩
        · obtain ⟨rfl, h2, h2p, D2, v2, rows2, rfl, R2⟩ := hp
          exact hnx2 _ _ ⟨rfl, h2p, D2, _, v2, rows2, rfl, ⟨R2.at_, by have := R2.ln; show rows2.length ≤ 16 * (i + 1); have : lits.length = 4 := rfl; omega, R2.all, R2.sm⟩⟩
      · obtain ⟨rfl, h1, D1, v1, v2, rows, rfl, R1⟩ := hp
        exact hnx _ _ ⟨D1, v1, v2, rows, rfl, R1⟩
    · rintro σ' H1 ⟨D1, v1, v2, rows, rfl, R1⟩
      k_subL
      exact q D1 rows H1 R1.sm R1.at_ R1.ln R1.all
end
end K03


end
section
set_option Elab.async false
set_option linter.all false
set_option maxRecDepth 100000
set_option maxHeartbeats 4000000
/-! ### readings by themselves -/
open PySem PySem.Spec PyProof.Rows L2 in
local macro_rules | `(tactic| k_allIn) => `(tactic| first | (with_reducible assumption) | exact upd_same | (refine Hk.same_upd (by assumption) _ _ ?_; k_allIn) | (refine (upd_ne (by first | assumption | exact Ne.symm (by assumption))).trans ?_; k_allIn))
open PySem PySem.Spec PyProof.Rows L2 in
local macro_rules | `(tactic| k_memK) => `(tactic| first | (with_reducible exact rfl) | (with_reducible assumption) | exact rfl | exact Hk.lk_hd | k_allIn | exact Or.inl (Or.inl (by k_allIn)) | exact ⟨_, rfl⟩ | exact Or.inl ⟨rfl, _, by assumption⟩ | exact Or.inl ⟨rfl, _, Or.inl (Or.inl (by k_allIn))⟩ | exact (fun _ h => h) | exact ClsV.own _ | exact ClsV.ty _ | exact Or.inl ‹_› | exact Or.inr ‹_› | lcg_src | exact Or.inl ⟨by omega, by omega⟩ | exact Or.inr ⟨by omega, by omega⟩ | exact ⟨by omega, by omega⟩ | exact Nat.le_of_lt (small1000 (by simp)) | exact small1000 (by simp) | exact Nat.le_of_lt (small1000 (by omega)) | exact small1000 (by omega) | omega | assumption | decide +kernel)
local macro_rules | `(tactic| lcg_sub) => `(tactic| (refine And.intro ?_ ?_; k_memK))
local macro_rules | `(tactic| k_subL) => `(tactic| (repeat (first | (apply Exists.intro) | lcg_sub | (refine Or.inl ⟨_, rfl, ?_⟩) | (refine Or.inr ⟨_, rfl, ?_⟩))))
namespace K03
open PySem PySem.Spec PyProof.Rows L2
open He (ga ma ba)
def cellD : Option Int → PyData
  | none => .none
  | some i => .int i
theorem cell_dp {K : PySem.W.Frag} {H : Hp} (c : Option Int) : Dp K H (cellV c) (cellD c) := by
  cases c with
  | none => exact .non
  | some i => exact .int i
theorem three {α : Type} {r : List α} (h : r.length = 3) : ∃ x y z, r = [x, y, z] := by
  match r, h with
  | [x, y, z], _ => exact ⟨x, y, z, rfl⟩
theorem RowAt.dp {K : PySem.W.Frag} {H : Hp} {r : List (Option Int)} {v : V} (h : RowAt K H r v) : Dp K H v (.tuple (r.map cellD)) := by
  obtain ⟨a, rfl, h1, h2, _⟩ := h
  obtain ⟨x, y, z, rfl⟩ := three h2
  exact .tup h1 (.cons (cell_dp x) (.cons (cell_dp y) (.cons (cell_dp z) .nil)))
theorem cell_eqv (c d : Option Int) : PyData.eqv (cellD c) (cellD d) = decide (c = d) := by
  cases c with
  | none =>
    cases d with
    | none => simp [cellD, PyData.eqv]
    | some j => simp [cellD, PyData.eqv]
  | some i =>
    cases d with
    | none => simp [cellD, PyData.eqv]
    | some j =>
      simp [cellD, PyData.eqv]
      rfl
theorem row_eqv {r s : List (Option Int)} (h : r.length = 3) (k : s.length = 3) : PyData.eqv (.tuple (r.map cellD)) (.tuple (s.map cellD)) = decide (r = s) := by
  obtain ⟨x, y, z, rfl⟩ := three h
  obtain ⟨x', y', z', rfl⟩ := three k
  simp [PyData.eqv, PyData.eqvAll, cell_eqv]
theorem row_shaped {r : List (Option Int)} (h : r.length = 3) : SeqAt.shaped (.tuple (r.map cellD)) = true := by
  obtain ⟨x, y, z, rfl⟩ := three h
  cases x <;> cases y <;> cases z <;> rfl
def atomD (c : Int) : Option Int → PyData
  | none => .tuple [.str "unknown", .int c]
  | some k => .tuple [.str "equal", .int c, .int k]
theorem atom_dp {K : PySem.W.Frag} {H : Hp} {c : Int} {x : Option Int} {v : V} (h : CdAt K H (atomC c x) v) : Dp K H v (atomD c x) := by
  cases x with
  | none =>
    obtain ⟨a, rfl, h1⟩ := h
    exact .tup h1 (.cons (.str _) (.cons (.int _) .nil))
  | some k =>
    obtain ⟨a, rfl, h1⟩ := h
    exact .tup h1 (.cons (.str _) (.cons (.int _) (.cons (.int _) .nil)))
theorem atom_fits (c : Int) (x : Option Int) (n : Nat) : fits (n + 2) (atomD c x) = true := by
  cases x <;> simp [atomD, fits]
def onlyD (r : List (Option Int)) : PyData := .tuple [.str "and", .tuple [.str "and", atomD 0 (cell r 0), atomD 1 (cell r 1)], atomD 2 (cell r 2)]
theorem only_dp {K : PySem.W.Frag} {H : Hp} {r : List (Option Int)} {v : V} (h : CdAt K H (onlyC r) v) : Dp K H v (onlyD r) := by
  obtain ⟨a, u, t, rfl, h1, ⟨a2, u2, t2, rfl, h2, h3, h4⟩, h5⟩ := h
  exact .tup h1 (.cons (.str _) (.cons (.tup h2 (.cons (.str _) (.cons (atom_dp h3) (.cons (atom_dp h4) .nil)))) (.cons (atom_dp h5) .nil)))
theorem only_fits (r : List (Option Int)) : fits 4 (onlyD r) = true := by
  have a0 := atom_fits 0 (cell r 0) 0
  have a1 := atom_fits 1 (cell r 1) 0
  have a2 := atom_fits 2 (cell r 2) 1
  simp [onlyD, fits] at *
  exact ⟨⟨a0, a1⟩, a2⟩
theorem atom_good (c : Int) (x : Option Int) (h0 : 0 ≤ c) (h1 : c < 3) : (atomC c x).good := by
  cases x <;> exact ⟨h0, h1⟩
theorem only_good (r : List (Option Int)) : (onlyC r).good := ⟨⟨atom_good 0 _ (by decide) (by decide), atom_good 1 _ (by decide) (by decide)⟩, atom_good 2 _ (by decide) (by decide)⟩
theorem atom_dep (c : Int) (x : Option Int) : (atomC c x).dep = 1 := by cases x <;> rfl
theorem only_dep (r : List (Option Int)) : (onlyC r).dep = 3 := by
  show max (max (atomC 0 _).dep (atomC 1 _).dep + 1) (atomC 2 _).dep + 1 = 3
  rw [atom_dep, atom_dep, atom_dep]
  rfl
theorem atom_ev (s : List (Option Int)) (c : Int) (x : Option Int) : ev s (atomC c x) ≠ 3 ∧ (ev s (atomC c x) = 2 ↔ cell s c = x) := by
  cases x with
  | none =>
    show (if cell s c = none then (2 : Int) else 0) ≠ 3 ∧ ((if cell s c = none then (2 : Int) else 0) = 2 ↔ cell s c = none)
    by_cases h : cell s c = none
    · simp [h]
    · simp [h]
  | some k =>
    show (match cell s c with
      | none => (1 : Int)
      | some x => if x = k then 2 else 0) ≠ 3 ∧ ((match cell s c with
      | none => (1 : Int)
      | some x => if x = k then 2 else 0) = 2 ↔ cell s c = some k)
    cases cell s c with
    | none => simp
    | some j =>
      by_cases h : j = k
      · simp [h]
      · simp [h]
theorem and_ev {s : List (Option Int)} {a b : Cd} (ha : ev s a ≠ 3) (hb : ev s b ≠ 3) : ev s (.and a b) ≠ 3 ∧ (ev s (.and a b) = 2 ↔ ev s a = 2 ∧ ev s b = 2) := by
  have ra := ev_range s a
  have rb := ev_range s b
  show (if ev s a = 0 ∨ ev s a = 3 then ev s a else if ev s b = 3 ∨ ev s b = 0 then ev s b else if ev s a = 1 ∨ ev s b = 1 then 1 else ev s b) ≠ 3 ∧ ((if ev s a = 0 ∨ ev s a = 3 then ev s a else if ev s b = 3 ∨ ev s b = 0 then ev s b else if ev s a = 1 ∨ ev s b = 1 then 1 else ev s b) = 2 ↔ _)
  split
  · omega
  · split
    · omega
    · split <;> omega
theorem only_ev {r s : List (Option Int)} (h : r.length = 3) (k : s.length = 3) : ev s (onlyC r) ≠ 3 ∧ (ev s (onlyC r) = 2 ↔ s = r) := by
  have a0 := atom_ev s 0 (cell r 0)
  have a1 := atom_ev s 1 (cell r 1)
  have a2 := atom_ev s 2 (cell r 2)
  have b0 := and_ev a0.1 a1.1
  have b1 := and_ev b0.1 a2.1
  refine ⟨b1.1, b1.2.trans ?_⟩
  rw [b0.2, a0.2, a1.2, a2.2]
  obtain ⟨x, y, z, rfl⟩ := three h
  obtain ⟨x', y', z', rfl⟩ := three k
  show ((x' = x ∧ y' = y) ∧ z' = z) ↔ _
  simp [and_assoc]
end K03


end
section
set_option Elab.async false
set_option linter.all false
set_option maxRecDepth 100000
set_option maxHeartbeats 4000000
/-! ### readings by themselves -/
open PySem PySem.Spec PyProof.Rows L2 in
local macro_rules | `(tactic| k_allIn) => `(tactic| first | (with_reducible assumption) | exact upd_same | (refine Hk.same_upd (by assumption) _ _ ?_; k_allIn) | (refine (upd_ne (by first | assumption | exact Ne.symm (by assumption))).trans ?_; k_allIn))
open PySem PySem.Spec PyProof.Rows L2 in
local macro_rules | `(tactic| k_memK) => `(tactic| first | (with_reducible exact rfl) | (with_reducible assumption) | exact rfl | exact Hk.lk_hd | k_allIn | exact Or.inl (Or.inl (by k_allIn)) | exact ⟨_, rfl⟩ | exact Or.inl ⟨rfl, _, by assumption⟩ | exact Or.inl ⟨rfl, _, Or.inl (Or.inl (by k_allIn))⟩ | exact (fun _ h => h) | exact ClsV.own _ | exact ClsV.ty _ | exact Or.inl ‹_› | exact Or.inr ‹_› | lcg_src | exact Or.inl ⟨by omega, by omega⟩ | exact Or.inr ⟨by omega, by omega⟩ | exact ⟨by omega, by omega⟩ | exact Nat.le_of_lt (small1000 (by simp)) | exact small1000 (by simp) | exact Nat.le_of_lt (small1000 (by omega)) | exact small1000 (by omega) | omega | assumption | decide +kernel)
local macro_rules | `(tactic| lcg_sub) => `(tactic| (refine And.intro ?_ ?_; k_memK))
local macro_rules | `(tactic| k_subL) => `(tactic| (repeat (first | (apply Exists.intro) | lcg_sub | (refine Or.inl ⟨_, rfl, ?_⟩) | (refine Or.inr ⟨_, rfl, ?_⟩))))
namespace K03
open PySem PySem.Spec PyProof.Rows L2
open He (ga ma ba)
def sp_law (K : PySem.W.Frag) : Sp := fun vs H Q _ => ∃ (a : Addr) (ns : List Int), vs = [.ref a] ∧ SqL K H a (ns.map V.int) ∧ ns.length ≤ 63 ∧ ∀ H', Q (.bl true) H'
section
variable {P : Program} {w : World} {K : PySem.W.Frag} {mg : Str → Option Value} {base : Heap}
theorem run_law (T : Txt K mg) {fd : FuncData} (F : FunD K "law" "law" (defArgs s_law) (defBody s_law) (defScope s_law) [] [] (ga K "law") fd) : FnOk P w K mg base CX0 15 (ga K "law") fd ["_law_script"] (sp_law K) := by
  refine Hk.mkL F sc_law (fun vs H Q E h => ?_) (fun cdv A outer s H vs Q E hr h => ?_)
  · obtain ⟨a, ns, rfl, _⟩ := h
    rfl
  · obtain ⟨a, ns, rfl, hs, hn, qq⟩ := h
    refine ⟨_, (pss_cons (ps_set (i := 1) sc_law.nd rfl (.inl rfl) (Hk.pe_g (ok_box T) (hr.mono (by decide)) pass0 (pa_cons (pv 0) pa_nil)))
      (pss_cons (ps_set (i := 2) sc_law.nd rfl (.inr rfl) (Hk.pe_g (ok_row T) (hr.mono (by decide)) pass0 (pa_cons (pv 1) pa_nil)))
      (pss_cons (ps_set (i := 3) sc_law.nd rfl (.inl rfl) (Hk.pe_g (ok_condition T 3) (hr.mono (by decide : 4 ≤ 14)) pass0 (pa_cons (pv 1) (pa_cons pe_int (pa_cons pe_int pa_nil)))))
      (pss_cons (ps_for PassesOwn.never rfl (pi_list (Hk.pe_g (ok_wraps T) (hr.mono (by decide)) pass0 (pa_cons (pv 1) (pa_cons (Hk.pe_g (ok_draw T) (hr.mono (by decide)) pass0 (pa_cons (pv 1) (pa_cons pe_int pa_nil))) pa_nil)))) (pg_name (i := 4) sc_law.nd rfl (.inl rfl))
        (pss_one (ps_set (i := 3) sc_law.nd rfl (.inl rfl) (Hk.pe_g (ok_wrapped T) (hr.mono (by decide)) pass0 (pa_cons (pv 4) (pa_cons (pv 3) pa_nil))))))
      (pss_cons (ps_set (i := 5) sc_law.nd rfl (.inl rfl) (pe_lst (pa_cons (pv 2) pa_nil)))
      (pss_cons (ps_for PassesOwn.never rfl (pi_range1 (by rfl) T.z_range (pa_cons pe_int pa_nil)) (pg_name (i := 6) sc_law.nd rfl (.inr rfl))
        (pss_one (ps_set (i := 5) sc_law.nd rfl (.inl rfl) (pe_op op_cat (pv 5) (pe_lc (own := [("_law_known", 7)]) rfl sc_law.nd (pi_list (pe_lst (pa_cons pe_non (pa_cons pe_int (pa_cons pe_int (pa_cons pe_int pa_nil)))))) (blkOk_by (own := [("_law_known", 7)]) (N := ["_law_script", "_law_box_here", "_law_row_here", "_law_condition_here", "_law_wrap", "_law_rows", "_law_column", "_law_known", "_law_other", "_law_alone", "_law_told_here"]) (sc := defScope s_law) (by decide +kernel)) (fun _ _ _ _ _ => pg_name (i := 7) sc_law.nd rfl (Or.inl rfl)) (fun _ _ _ _ _ => pts_nil) (fun _ _ _ _ _ => (pe_op (Hk.op_catAK (K := K)) (pe_op (Hk.op_catAK (K := K)) (pe_slice (Hk.sl_tupAK (K := K)) (pv 2) po_none (po_some (pv 6))) (pe_tup (pa_cons (pv 7) pa_nil))) (pe_slice (Hk.sl_tupAK (K := K)) (pv 2) (po_some (pe_op op_add (pv 6) pe_int)) po_none))))))))
      (pss_cons (ps_for PassesOwn.never rfl (pi_list (pv 5)) (pg_name (i := 8) sc_law.nd rfl (.inl rfl))
        (pss_one (ps_if (pt_not (pt_val (Hk.pe_g (ok_alike T 4) (hr.mono (by decide : 4 ≤ 14)) pass0 (pa_cons (Hk.pe_g (ok_told T) (hr.mono (by decide)) pass0 (pa_cons (pv 3) (pa_cons (pv 8) pa_nil))) (pa_cons (Hk.pe_g (ok_Ltruth T 7) (hr.mono (by decide : 7 ≤ 14)) pass0 (pa_cons (pv 3) (pa_cons (pv 8) pa_nil))) pa_nil)))))
          (pss_one (ps_ret pe_bl))
          pss_nil)))
      (pss_cons (ps_set (i := 9) sc_law.nd rfl (.inl rfl) (Hk.pe_g (ok_Lonly T) (hr.mono (by decide)) pass0 (pa_cons (pv 2) pa_nil)))
      (pss_cons (ps_if (pt_not (pt_val (Hk.pe_g (ok_alike T 4) (hr.mono (by decide : 4 ≤ 14)) pass0 (pa_cons (Hk.pe_g (ok_only T) (hr.mono (by decide)) pass0 (pa_cons (pv 2) pa_nil)) (pa_cons (pv 9) pa_nil)))))
        (pss_one (ps_ret pe_bl))
        pss_nil)
      (pss_cons (ps_for PassesOwn.never rfl (pi_list (Hk.pe_g0 (ok_every T) (hr.mono (by decide)) pass0)) (pg_name (i := 8) sc_law.nd rfl (.inl rfl))
        (pss_cons (ps_set (i := 10) sc_law.nd rfl (.inl rfl) (Hk.pe_g (ok_told T) (hr.mono (by decide)) pass0 (pa_cons (Hk.pe_g (ok_only T) (hr.mono (by decide)) pass0 (pa_cons (pv 2) pa_nil)) (pa_cons (pv 8) pa_nil))))
        (pss_one (ps_if (PW.pt (pw_or (pt_not (pt_val (Hk.pe_g (ok_alike T 4) (hr.mono (by decide : 4 ≤ 14)) pass0 (pa_cons (pv 10) (pa_cons (Hk.pe_g (ok_Ltruth T 7) (hr.mono (by decide : 7 ≤ 14)) pass0 (pa_cons (pv 9) (pa_cons (pv 8) pa_nil))) pa_nil))))) (pw_or1 (pt_cmpR op_ne (pe_cmpR op_eq (pv 10) pe_int (nomark _)) (pe_cmpR (op_eqD hr.units) (pv 8) (pv 2) (nomark _)) (nomark _)))))
          (pss_one (ps_ret pe_bl))
          pss_nil))))
      (pss_cons (ps_for PassesOwn.never rfl (pi_range1 (by rfl) T.z_range (pa_cons pe_int pa_nil)) (pg_name (i := 6) sc_law.nd rfl (.inr rfl))
        (pss_one (ps_for PassesOwn.never rfl (pi_list (pe_lst (pa_cons pe_non (pa_cons pe_int (pa_cons pe_int (pa_cons pe_int pa_nil)))))) (pg_name (i := 7) sc_law.nd rfl (.inl rfl))
          (pss_one (ps_if (pt_not (pt_val (Hk.pe_g (ok_alike T 4) (hr.mono (by decide : 4 ≤ 14)) pass0 (pa_cons (Hk.pe_g (ok_atom T) (hr.mono (by decide)) pass0 (pa_cons (pv 6) (pa_cons (pv 7) pa_nil))) (pa_cons (Hk.pe_g (ok_Latom T) (hr.mono (by decide)) pass0 (pa_cons (pv 6) (pa_cons (pv 7) pa_nil))) pa_nil)))))
            (pss_one (ps_ret pe_bl))
            pss_nil)))))
      (pss_one (ps_ret pe_bl))))))))))))), ?_⟩
    k_subL
    intro b l H1 s1 nb nl hb1
    k_subL
    intro pr row H2 hrow hb2 s2
    k_subL
    intro pc cd H3 hcd gcd dcd hb3 s3
    have hrow3 := hrow.but hb2 s3
    dsimp only [gName]
    refine Hk.seq_rest (fun σ' H' => ∃ v cd o4, σ' = [some (.ref a), some (.ref b), some pr, some v, o4, none, none, none, none, none, none] ∧ RowAt K H' row pr ∧ CdAt K H' cd v ∧ cd.good ∧ cd.dep ≤ 7) (fun nx hnx => ?_) ?_
    · refine tfor_any (K := K) (fun p xs H' => H' p = some (.lst xs) ∧ xs.length ≤ 4 ∧ (∀ x ∈ xs, WrapAt K H' x) ∧ RowAt K H' row pr ∧ CdAt K H' cd pc) (fun R hR => ?_) (fun p xs i σ' H' => H' p = some (.lst xs) ∧ xs.length ≤ 4 ∧ (∀ x ∈ xs, WrapAt K H' x) ∧ RowAt K H' row pr ∧ ∃ v c o4, σ' = [some (.ref a), some (.ref b), some pr, some v, o4, none, none, none, none, none, none] ∧ CdAt K H' c v ∧ c.good ∧ c.dep ≤ 3 + i) (fun p xs H1 hS => ?_) (fun p xs i σ' H' hp => ?_) (fun p xs i x σ' H' nx2 hi hp hnx2 => ?_) (fun p xs σ' H' hp => ?_)
      · k_subL
        intro k H4 k0 k1 hb4 s4
        k_subL
        intro p xs H5 hx hlen hall hb5 s5
        refine ⟨p, rfl, ⟨xs, .inl (.inl hx)⟩, hR p xs _ ⟨hx, by omega, hall, (hrow3.but hb3 s4).but hb4 s5, (hcd.but hb3 s4).but hb4 s5⟩⟩
      · obtain ⟨h1, h2, h3, h4, h5⟩ := hS
        exact ⟨h1, h2, h3, h4, pc, cd, none, rfl, h5, gcd, dcd⟩
      · exact .inl (.inl hp.1)
      · obtain ⟨h1, h2, h3, h4, v, c, o4, rfl, h5, h6, h7⟩ := hp
        have hw := h3 x (List.mem_of_getElem? hi)
        k_subL
        intro p' c' H'' s' h8 h9 h10
        exact hnx2 _ _ ⟨s' _ _ h1, h2, fun y hy => (h3 y hy).mono s', h4.mono s', p', c', _, rfl, h8, h9, by omega⟩
      · obtain ⟨h1, h2, h3, h4, v, c, o4, rfl, h5, h6, h7⟩ := hp
        exact hnx _ _ ⟨v, c, o4, rfl, h4, h5, h6, by omega⟩
    clear hrow hcd hrow3 hb1 hb2 hb3 s1 s2 s3 gcd dcd
    rintro σ' H4 ⟨v, c, o4, rfl, hrow, hc, gc, dc⟩
    refine Hk.seq_rest (fun σ' H' => ∃ D rows, σ' = [some (.ref a), some (.ref b), some pr, some v, o4, some (.ref D), none, none, none, none, none] ∧ RowAt K H' row pr ∧ CdAt K H' c v ∧ H' D = some (.lst rows) ∧ rows.length ≤ 1 ∧ ∀ x ∈ rows, ∃ r, RowAt K H' r x) (fun nx hnx => ?_) ?_
    · k_subL
      intro D nD
      have s : Same H4 _ := Hk.same_upd (o := .lst [pr]) nD
      refine hnx _ _ ⟨D, [pr], rfl, hrow.mono s, hc.mono s, upd_same, Nat.le_refl _, fun x hx => ?_⟩
      obtain rfl := List.mem_singleton.mp hx
      exact ⟨row, hrow.mono s⟩
    clear hrow hc
    rintro σ' H5 ⟨D, rows, rfl, hrow, hc, hD, hlen, hall⟩
    refine Hk.seq_rest (fun σ' H' => ∃ D rows o6, σ' = [some (.ref a), some (.ref b), some pr, some v, o4, some (.ref D), o6, none, none, none, none] ∧ RowAt K H' row pr ∧ CdAt K H' c v ∧ H' D = some (.lst rows) ∧ rows.length ≤ 13 ∧ ∀ x ∈ rows, ∃ r, RowAt K H' r x) (fun nx hnx => ?_) ?_
    · refine Hk.tfor_rng (lo := 0) (n := 3) (fun i σ' H' => ∃ D rows o6, σ' = [some (.ref a), some (.ref b), some pr, some v, o4, some (.ref D), o6, none, none, none, none] ∧ RowAt K H' row pr ∧ CdAt K H' c v ∧ H' D = some (.lst rows) ∧ rows.length ≤ 1 + 4 * i ∧ ∀ x ∈ rows, ∃ r, RowAt K H' r x) (fun R hR => ?_) ⟨D, rows, none, rfl, hrow, hc, hD, hlen, hall⟩ (fun i σ' H' nx2 hi hp hnx2 => ?_) (fun σ' H' hp => ?_)
      · k_subL
        exact hR
      · clear hrow hc hD hlen hall
        obtain ⟨D, rows, o6, rfl, hrow, hc, hD, hlen, hall⟩ := hp
        obtain ⟨ap, rfl, ht, h3, hlow⟩ := id hrow
        obtain ⟨x, y, z, rfl⟩ := three h3
        have ht' : SqT K H' ap [cellV x, cellV y, cellV z] := ht
        clear ht
        k_subL
        intro p3 n3
        have s3 : Same H' _ := Hk.same_upd (o := .lst lits) n3
        have hl3 : SqL K (upd H' p3 (.lst lits)) p3 lits := .inl (.inl upd_same)
        refine ⟨p3, rfl, ⟨lits, hl3⟩, fun D3 nD3 => ?_⟩
        have s4 : Same (upd H' p3 (.lst lits)) _ := Hk.same_upd (o := .lst []) nD3
        have nDp : p3 ≠ D3 := ne_of_none upd_same nD3
        refine lc_list (K := K) (a := p3) (xs := lits) (Pv := fun k H2 => ∃ new, H2 D3 = some (.lst new) ∧ new.length = k ∧ (∀ x ∈ new, ∃ row, RowAt K H2 row x) ∧ H2 p3 = some (.lst lits) ∧ Same H' H2) ⟨[], upd_same, rfl, nofun, s4 _ _ upd_same, s3.trans s4⟩ (fun k H2 _ hp => ?_) (fun k e H2 hk hp => ?_) (fun H2 hp => ?_)
        · obtain ⟨new, n1, n2, n3, n4, n5⟩ := hp
          exact .inl (.inl n4)
        · obtain ⟨new, n1, n2, n3', n4, n5⟩ := hp
          obtain ⟨ce, rfl, hce⟩ := cells4 hk
          have hk4 : k < 4 := (List.getElem?_eq_some_iff.mp hk).1
          have ht2 := SqT.mono ht' n5
          have fin : ∀ (pe : Addr) (r : List (Option Int)) (H4 : Hp), Same H2 H4 → SqT K H4 pe (r.map cellV) → r.length = 3 → low r → ∃ acc, H4 D3 = some (HO.lst acc) ∧ acc.length < sizeLine ∧ ∃ new, upd H4 D3 (HO.lst (acc ++ [V.ref pe])) D3 = some (HO.lst new) ∧ new.length = k + 1 ∧
              (∀ (x : V), x ∈ new → ∃ row, RowAt K (upd H4 D3 (HO.lst (acc ++ [V.ref pe]))) row x) ∧ upd H4 D3 (HO.lst (acc ++ [V.ref pe])) p3 = some (HO.lst lits) ∧ Same H' (upd H4 D3 (HO.lst (acc ++ [V.ref pe]))) := by
            intro pe r H4 sr hr lr low_r
            have d5 := sr _ _ n1
            refine ⟨new, d5, small1000 (by omega), new ++ [.ref pe], upd_same, by rw [List.length_append, n2] <;> rfl, fun x hx => ?_, ?_, fun y o hy => ?_⟩
            · rcases List.mem_append.mp hx with hx | hx
              · obtain ⟨r0, hr0⟩ := n3' x hx
                exact ⟨r0, (hr0.mono sr).set d5⟩
              · obtain rfl := List.mem_singleton.mp hx
                exact ⟨r, RowAt.set ⟨pe, rfl, hr, lr, low_r⟩ d5⟩
            · rw [upd_ne nDp]
              exact sr _ _ n4
            · have hyD : y ≠ D3 := ne_of_none (s3 _ _ hy) nD3
              rw [upd_ne hyD]
              exact sr _ _ (n5 _ _ hy)
          have lx : ∀ j, x = some j → 0 ≤ j ∧ j ≤ 2 := fun j e => hlow j (by rw [e]; simp)
          have ly : ∀ j, y = some j → 0 ≤ j ∧ j ≤ 2 := fun j e => hlow j (by rw [e]; simp)
          have lz : ∀ j, z = some j → 0 ≤ j ∧ j ≤ 2 := fun j e => hlow j (by rw [e]; simp)
          have low3 : ∀ {p q r : Option Int}, (∀ j, p = some j → 0 ≤ j ∧ j ≤ 2) → (∀ j, q = some j → 0 ≤ j ∧ j ≤ 2) → (∀ j, r = some j → 0 ≤ j ∧ j ≤ 2) → low [p, q, r] := fun a b c j hj => by
            rcases List.mem_cons.mp hj with hj | hj
            · exact a j hj.symm
            rcases List.mem_cons.mp hj with hj | hj
            · exact b j hj.symm
            · exact c j (List.mem_singleton.mp hj).symm
          obtain rfl | rfl | rfl : i = 0 ∨ i = 1 ∨ i = 2 := by omega
          · k_subL
            refine And.intro (fun e => absurd (show (0 : Nat) = 3 from e.2) (by decide)) (fun _ p1 m1 => ?_)
            generalize hHa : upd H2 p1 _ = Ha
            have t1 : Same H2 Ha := by rw [← hHa]; exact Hk.same_upd m1
            have q1 : SqT K Ha p1 [] := by rw [← hHa]; exact .inl (.inl upd_same)
            k_subL
            intro p2 m2
            generalize hHb : upd Ha p2 _ = Hb
            have t2 : Same Ha Hb := by rw [← hHb]; exact Hk.same_upd m2
            have q2 : SqT K Hb p2 [cellV ce] := by rw [← hHb]; exact .inl (.inl upd_same)
            have q1' := SqT.mono q1 t2
            have r2 := SqT.mono (SqT.mono ht2 t1) t2
            k_subL
            refine And.intro (fun _ => ?_) (And.intro (fun e => absurd rfl e) (fun e => absurd rfl e))
            k_subL
            refine And.intro (fun e => absurd (show (1 : Nat) = 0 from e.1) (by decide)) (fun _ p4 m4 => ?_)
            generalize hHc : upd Hb p4 _ = Hc
            have t4 : Same Hb Hc := by rw [← hHc]; exact Hk.same_upd m4
            have q4 : SqT K Hc p4 [cellV y, cellV z] := by rw [← hHc]; exact .inl (.inl upd_same)
            have q2' := SqT.mono q2 t4
            k_subL
            refine And.intro (fun e => nomatch e) (And.intro (fun _ e => nomatch e) (fun _ _ p5 m5 => ?_))
            generalize hHd : upd Hc p5 _ = Hd
            have t5 : Same Hc Hd := by rw [← hHd]; exact Hk.same_upd m5
            have q5 : SqT K Hd p5 [cellV ce, cellV y, cellV z] := by rw [← hHd]; exact .inl (.inl upd_same)
            exact fin p5 [ce, y, z] Hd (((t1.trans t2).trans t4).trans t5) q5 rfl (low3 hce ly lz)
          · k_subL
            refine And.intro (fun e => absurd (show (1 : Nat) = 3 from e.2) (by decide)) (fun _ p1 m1 => ?_)
            generalize hHa : upd H2 p1 _ = Ha
            have t1 : Same H2 Ha := by rw [← hHa]; exact Hk.same_upd m1
            have q1 : SqT K Ha p1 [cellV x] := by rw [← hHa]; exact .inl (.inl upd_same)
            k_subL
            intro p2 m2
            generalize hHb : upd Ha p2 _ = Hb
            have t2 : Same Ha Hb := by rw [← hHb]; exact Hk.same_upd m2
            have q2 : SqT K Hb p2 [cellV ce] := by rw [← hHb]; exact .inl (.inl upd_same)
            have q1' := SqT.mono q1 t2
            k_subL
            refine And.intro (fun e => nomatch e) (And.intro (fun _ e => nomatch e) (fun _ _ p6 m6 => ?_))
            generalize hHe : upd Hb p6 _ = He
            have t6 : Same Hb He := by rw [← hHe]; exact Hk.same_upd m6
            have q6 : SqT K He p6 [cellV x, cellV ce] := by rw [← hHe]; exact .inl (.inl upd_same)
            have r2 := SqT.mono (SqT.mono (SqT.mono ht2 t1) t2) t6
            k_subL
            refine And.intro (fun e => absurd (show (2 : Nat) = 0 from e.1) (by decide)) (fun _ p4 m4 => ?_)
            generalize hHc : upd He p4 _ = Hc
            have t4 : Same He Hc := by rw [← hHc]; exact Hk.same_upd m4
            have q4 : SqT K Hc p4 [cellV z] := by rw [← hHc]; exact .inl (.inl upd_same)
            have q6' := SqT.mono q6 t4
            k_subL
            refine And.intro (fun e => nomatch e) (And.intro (fun _ e => nomatch e) (fun _ _ p5 m5 => ?_))
            generalize hHd : upd Hc p5 _ = Hd
            have t5 : Same Hc Hd := by rw [← hHd]; exact Hk.same_upd m5
            have q5 : SqT K Hd p5 [cellV x, cellV ce, cellV z] := by rw [← hHd]; exact .inl (.inl upd_same)
            exact fin p5 [x, ce, z] Hd ((((t1.trans t2).trans t6).trans t4).trans t5) q5 rfl (low3 lx hce lz)
          · k_subL
            refine And.intro (fun e => absurd (show (2 : Nat) = 3 from e.2) (by decide)) (fun _ p1 m1 => ?_)
            generalize hHa : upd H2 p1 _ = Ha
            have t1 : Same H2 Ha := by rw [← hHa]; exact Hk.same_upd m1
            have q1 : SqT K Ha p1 [cellV x, cellV y] := by rw [← hHa]; exact .inl (.inl upd_same)
            k_subL
            intro p2 m2
            generalize hHb : upd Ha p2 _ = Hb
            have t2 : Same Ha Hb := by rw [← hHb]; exact Hk.same_upd m2
            have q2 : SqT K Hb p2 [cellV ce] := by rw [← hHb]; exact .inl (.inl upd_same)
            have q1' := SqT.mono q1 t2
            k_subL
            refine And.intro (fun e => nomatch e) (And.intro (fun _ e => nomatch e) (fun _ _ p6 m6 => ?_))
            generalize hHe : upd Hb p6 _ = He
            have t6 : Same Hb He := by rw [← hHe]; exact Hk.same_upd m6
            have q6 : SqT K He p6 [cellV x, cellV y, cellV ce] := by rw [← hHe]; exact .inl (.inl upd_same)
            have r2 := SqT.mono (SqT.mono (SqT.mono ht2 t1) t2) t6
            k_subL
            refine And.intro (fun e => absurd (show (3 : Nat) = 0 from e.1) (by decide)) (fun _ p4 m4 => ?_)
            generalize hHc : upd He p4 _ = Hc
            have t4 : Same He Hc := by rw [← hHc]; exact Hk.same_upd m4
            have q4 : SqT K Hc p4 [] := by rw [← hHc]; exact .inl (.inl upd_same)
            have q6' := SqT.mono q6 t4
            k_subL
            refine And.intro (fun e => nomatch e) (And.intro (fun _ _ => ?_) (fun _ e => absurd rfl e))
            exact fin p6 [x, y, ce] Hc (((t1.trans t2).trans t6).trans t4) q6' rfl (low3 lx ly hce)
        · obtain ⟨new, n1, n2, n3', n4, n5⟩ := hp
          have hD2 := n5 _ _ hD
          have hl4 : lits.length = 4 := rfl
          have zz : rows.length + new.length ≤ sizeLine := Nat.le_of_lt (small1000 (by omega))
          k_subL
          intro p6 n6
          have s6 : Same H2 _ := Hk.same_upd (o := .lst (rows ++ new)) n6
          refine hnx2 _ _ ⟨p6, rows ++ new, _, rfl, (hrow.mono n5).mono s6, (hc.mono n5).mono s6, upd_same, by rw [List.length_append]; omega, fun x hx => ?_⟩
          rcases List.mem_append.mp hx with hx | hx
          · obtain ⟨r, hr⟩ := hall x hx
            exact ⟨r, (hr.mono n5).mono s6⟩
          · obtain ⟨r, hr⟩ := n3' x hx
            exact ⟨r, hr.mono s6⟩
      · obtain ⟨D, rows, o6, rfl, hrow, hc, hD, hlen, hall⟩ := hp
        exact hnx _ _ ⟨D, rows, o6, rfl, hrow, hc, hD, hlen, hall⟩
    clear hrow hc hD hlen hall
    rintro σ' H6 ⟨D2, rows2, o6, rfl, hrow, hc, hD, hlen, hall⟩
    refine Hk.seq_rest (fun σ' H' => ∃ o8, σ' = [some (.ref a), some (.ref b), some pr, some v, o4, some (.ref D2), o6, none, o8, none, none] ∧ RowAt K H' row pr) (fun nx hnx => ?_) ?_
    · refine Hk.tfor_lst (K := K) (a := D2) (xs := rows2) (fun i σ' H' => ∃ o8, σ' = [some (.ref a), some (.ref b), some pr, some v, o4, some (.ref D2), o6, none, o8, none, none] ∧ RowAt K H' row pr ∧ CdAt K H' c v ∧ H' D2 = some (.lst rows2) ∧ ∀ x ∈ rows2, ∃ r, RowAt K H' r x) (fun R hR => ?_) ⟨none, rfl, hrow, hc, hD, hall⟩ (fun i σ' H' hi hp => ?_) (fun i x σ' H' nx2 hi hp hnx2 => ?_) (fun σ' H' hp => ?_)
      · k_subL
        exact ⟨⟨rows2, .inl (.inl hD)⟩, hR⟩
      · obtain ⟨o8, rfl, h1, h2, h3, h4⟩ := hp
        exact .inl (.inl h3)
      · obtain ⟨o8, rfl, h1, h2, h3, h4⟩ := hp
        obtain ⟨r, hr⟩ := h4 x (List.mem_of_getElem? hi)
        k_subL
        intro H7 s7
        have h2' := h2.mono s7
        have hr' := hr.mono s7
        have dd : Dp K H7 (.int (ev r c)) (.int (ev r c)) := .int _
        have ff : fits 4 (.int (ev r c)) = true := rfl
        k_subL
        exact hnx2 _ _ ⟨_, rfl, h1.mono s7, h2', s7 _ _ h3, fun y hy => let ⟨r, q⟩ := h4 y hy; ⟨r, q.mono s7⟩⟩
      · obtain ⟨o8, rfl, h1, h2, h3, h4⟩ := hp
        exact hnx _ _ ⟨o8, rfl, h1⟩
    clear hrow hc hD hlen hall
    rintro σ' H7 ⟨o8, rfl, hrow⟩
    refine Hk.seq_rest (fun σ' H' => ∃ pa, σ' = [some (.ref a), some (.ref b), some pr, some v, o4, some (.ref D2), o6, none, o8, some pa, none] ∧ RowAt K H' row pr ∧ CdAt K H' (onlyC row) pa) (fun nx hnx => ?_) ?_
    · k_subL
      intro pa H8 s8 c8
      exact hnx _ _ ⟨.ref pa, rfl, hrow.mono s8, c8⟩
    clear hrow
    rintro σ' H8 ⟨pa, rfl, hrow, hpa⟩
    refine Hk.seq_rest (fun σ' H' => σ' = [some (.ref a), some (.ref b), some pr, some v, o4, some (.ref D2), o6, none, o8, some pa, none] ∧ RowAt K H' row pr ∧ CdAt K H' (onlyC row) pa) (fun nx hnx => ?_) ?_
    · k_subL
      intro po H9 s9 c9
      have d9 := only_dp c9
      have dpa := only_dp (hpa.mono s9)
      have ff := only_fits row
      k_subL
      exact hnx _ _ ⟨rfl, hrow.mono s9, hpa.mono s9⟩
    clear hrow hpa
    rintro σ' H9 ⟨rfl, hrow, hpa⟩
    refine Hk.seq_rest (fun σ' H' => ∃ o8 o10, σ' = [some (.ref a), some (.ref b), some pr, some v, o4, some (.ref D2), o6, none, o8, some pa, o10]) (fun nx hnx => ?_) ?_
    · refine tfor_any (K := K) (fun p xs H' => H' p = some (.lst xs) ∧ (∀ x ∈ xs, ∃ r, RowAt K H' r x) ∧ RowAt K H' row pr ∧ CdAt K H' (onlyC row) pa) (fun R hR => ?_) (fun p xs i σ' H' => H' p = some (.lst xs) ∧ (∀ x ∈ xs, ∃ r, RowAt K H' r x) ∧ RowAt K H' row pr ∧ CdAt K H' (onlyC row) pa ∧ ∃ o8 o10, σ' = [some (.ref a), some (.ref b), some pr, some v, o4, some (.ref D2), o6, none, o8, some pa, o10]) (fun p xs H1 hS => ?_) (fun p xs i σ' H' hp => ?_) (fun p xs i x σ' H' nx2 hi hp hnx2 => ?_) (fun p xs σ' H' hp => ?_)
      · k_subL
        intro p xs H10 s10 hx hlen hall
        exact ⟨p, rfl, ⟨xs, .inl (.inl hx)⟩, hR p xs _ ⟨hx, hall, hrow.mono s10, hpa.mono s10⟩⟩
      · obtain ⟨h1, h2, h3, h4⟩ := hS
        exact ⟨h1, h2, h3, h4, o8, none, rfl⟩
      · exact .inl (.inl hp.1)
      · obtain ⟨h1, h2, h3, h4, o8, o10, rfl⟩ := hp
        obtain ⟨r, hr⟩ := h2 x (List.mem_of_getElem? hi)
        have lr : r.length = 3 := by obtain ⟨_, _, _, l, _⟩ := hr; exact l
        have lrow : row.length = 3 := by obtain ⟨_, _, _, l, _⟩ := h3; exact l
        have oev := only_ev lrow lr
        have og := only_good row
        have od := only_dep row
        k_subL
        intro po H11 s11 c11
        have hr11 := hr.mono s11
        k_subL
        intro H12 s12
        have hr12 := hr11.mono s12
        have h4' := (h4.mono s11).mono s12
        have h3' := (h3.mono s11).mono s12
        have dd : Dp K H12 (.int (ev r (onlyC row))) (.int (ev r (onlyC row))) := .int _
        have ff : fits 4 (.int (ev r (onlyC row))) = true := rfl
        have dr := hr12.dp
        have drow := h3'.dp
        have sr := row_shaped lr
        have srow := row_shaped lrow
        dsimp only [gName]
        k_subL
        have eb : (!decide (V.bl (decide (V.int (ev r (onlyC row)) = V.int 2)) = V.bl (PyData.eqv (.tuple (r.map cellD)) (.tuple (row.map cellD))))) = false := by
          rw [row_eqv lr lrow, Hk.dI]
          by_cases h : r = row
          · rw [decide_eq_true h, decide_eq_true (oev.2.mpr h)]
            rfl
          · rw [decide_eq_false h, decide_eq_false (fun z => h (oev.2.mp z))]
            rfl
        rw [eb]
        k_subL
        exact hnx2 _ _ ⟨s12 _ _ (s11 _ _ h1), fun y hy => let ⟨r, q⟩ := h2 y hy; ⟨r, (q.mono s11).mono s12⟩, h3', h4', _, _, rfl⟩
      · obtain ⟨h1, h2, h3, h4, o8, o10, rfl⟩ := hp
        exact hnx _ _ ⟨o8, o10, rfl⟩
    clear hrow hpa
    rintro σ' H10 ⟨o8, o10, rfl⟩
    refine Hk.seq_rest (fun σ' H' => ∃ o6 o7, σ' = [some (.ref a), some (.ref b), some pr, some v, o4, some (.ref D2), o6, o7, o8, some pa, o10]) (fun nx hnx => ?_) ?_
    · refine Hk.tfor_rng (lo := 0) (n := 3) (fun i σ' H' => ∃ o6 o7, σ' = [some (.ref a), some (.ref b), some pr, some v, o4, some (.ref D2), o6, o7, o8, some pa, o10]) (H1 := H10) (fun R hR => ?_) ⟨o6, none, rfl⟩ (fun i σ' H' nx2 hi hp hnx2 => ?_) (fun σ' H' hp => ?_)
      · k_subL
        exact hR
      · obtain ⟨o6, o7, rfl⟩ := hp
        dsimp only [gName]
        refine tfor_any (K := K) (fun p xs H1 => xs = lits ∧ H1 p = some (.lst lits)) (fun R hR => ?_) (fun p xs j σ' H' => xs = lits ∧ H' p = some (.lst lits) ∧ ∃ o7, σ' = [some (.ref a), some (.ref b), some pr, some v, o4, some (.ref D2), some (.int (0 + (i : Int))), o7, o8, some pa, o10]) (fun p xs H1 hS => ?_) (fun p xs j σ' H' hp => ?_) (fun p xs j x σ' H2 nx3 hj hp hnx3 => ?_) (fun p xs σ' H2 hp => ?_)
        · k_subL
          intro p np
          exact ⟨p, rfl, ⟨lits, .inl (.inl upd_same)⟩, hR p lits _ ⟨rfl, upd_same⟩⟩
        · obtain ⟨rfl, h1⟩ := hS
          exact ⟨rfl, h1, o7, rfl⟩
        · obtain ⟨rfl, h1, _⟩ := hp
          exact .inl (.inl h1)
        · obtain ⟨rfl, h1, o7, rfl⟩ := hp
          obtain ⟨c1, rfl, hc1⟩ := cells4 hj
          k_subL
          intro q1 H3 s3 g3
          k_subL
          intro q2 H4 s4 g4
          have e3 := atom_dp (g3.mono s4)
          have e4 := atom_dp g4
          have ff := atom_fits (0 + (i : Int)) c1 2
          k_subL
          exact hnx3 _ _ ⟨rfl, s4 _ _ (s3 _ _ h1), _, rfl⟩
        · obtain ⟨rfl, h1, o7, rfl⟩ := hp
          exact hnx2 _ _ ⟨_, _, rfl⟩
      · obtain ⟨o6, o7, rfl⟩ := hp
        exact hnx _ _ ⟨_, _, rfl⟩
    rintro σ' H11 ⟨o6, o7, rfl⟩
    k_subL
    exact qq _
end
end K03


end
section
set_option Elab.async false
set_option linter.all false
set_option maxRecDepth 100000
set_option maxHeartbeats 4000000
namespace K03
open PySem PySem.Spec PyProof.Rows L2
open He (ga ma ba)
theorem facts {P : Program} {w : World} {K : PySem.W.Frag} {h : Heap} {mg : Str → Option Value} {f : Addr} (X : K.In h) (G : h.Ns mainGlobals mg) (hfa : mg ("law" : Str) = some (.ref f)) (c : Hk.SaysE ex fn K) :
    ∃ fd : FuncData, (∀ (s : Shared) (v : Value), BindsTo s fd ⟨[v], []⟩ [("_law_script", v)]) ∧ ∀ base : Heap, K.In base → base.Ns mainGlobals mg → FnOk P w K mg base CX0 15 f fd ["_law_script"] (sp_law K) := by
  have T : Txt K mg := ⟨c, Hk.nsAll_of X G⟩
  have e := hfa.symm.trans T.g_law
  cases e
  obtain ⟨fd, F⟩ := T.f_law
  exact ⟨fd, fun s v => FunD.bindsA (ps := ["_law_script"]) F (fun _ _ _ _ _ _ us hl => match us, hl with | [_], _ => rfl) s [v] rfl, fun base _ _ => run_law T F⟩
end K03
open PySem PySem.W PySem.Calls PyProof.Rows
set_option maxHeartbeats 0 in
theorem PySem.Challenge.cw_bookstogether_k03_truth_of_conditions_holds : PySem.Challenge.rw_bookstogether_k03_truth_of_conditions.Holds := by
  w_on; o_law
  refine HandSHeadRun.head_any (r := OpenLaw.row PySem.Challenge.rw_bookstogether_k03_truth_of_conditions) (q := view (OpenLaw.row PySem.Challenge.rw_bookstogether_k03_truth_of_conditions).prog [28]) (H := K03.hk) (ob := K03.ob) (M := 6000) (loose := K03.loose) (d := HandSHeadRun.topDef (OpenLaw.row PySem.Challenge.rw_bookstogether_k03_truth_of_conditions).prog 28) (kwd := []) K03.ob_eq
    (by kernel_rfl) (fun s => by kernel_rfl) K03.run (by kernel_rfl) (by kernel_rfl) (by kernel_rfl) (by rfl) (by first | assumption | decide +kernel) (by decide +kernel) ⟨rfl, rfl, rfl, rfl, rfl, by decide +kernel⟩ ?hw ?hc
  case hw => w_witness2
  case hc =>
    refine L2.walk_ofE (l := PySem.Challenge.rw_bookstogether_k03_truth_of_conditions) (n := 63) (k := 15) (x := "_law_script") (CX := L2.CX0) rfl (by decide) (by kernel_rfl) ⟨rfl, by decide, by decide⟩ ?F (fun _ _ _ _ z => z)
    intro w mg fa h Y G hmg0
    obtain ⟨K, KX, c⟩ := Y
    have hmg : mg ("law" : PySem.Str) = some (.ref fa) := by
      have e : (HandSHeadRun.topDef (OpenLaw.row PySem.Challenge.rw_bookstogether_k03_truth_of_conditions).prog 28).name = ("law" : PySem.Str) := by kernel_rfl
      rw [← e]
      exact hmg0
    obtain ⟨fd, hb, hF⟩ := K03.facts (P := (PySem.Challenge.rw_bookstogether_k03_truth_of_conditions).prog) (w := w) KX G hmg c
    exact ⟨K, fd, K03.sp_law K, KX, hb, fun H a ns hl _ hS => ⟨a, ns, rfl, hS, hl, fun _ => rfl⟩, hF⟩

end
