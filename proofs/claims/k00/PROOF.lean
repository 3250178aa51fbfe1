import PyProof.Rows.All
import Wide.All
import OpenK.AllK
import Wide.FinOn
import HandS.ForExc
import HandS.Property
import KE.KStateDown
import HandS.Defaults
import HandS.ClsMeth
import HandS.Head0
import HandS.Head1
import HandS.Head2
import HandS.HeadEnd
import HandS.HeadHook1
import HandS.HeadHook2
import HandS.HeadNt
import HandS.IsInst
import HandS.ExcIs
import HandS.ForMost
import HandS.Strs
import HandS.Style
import HandS.WideBits
import HandS.TupAny
import PySem.Challenge.RW_bookstogether_k00_truth_values
set_option Elab.async false
set_option linter.all false
set_option maxRecDepth 100000
set_option maxHeartbeats 4000000
/-! Own operators, truth, static methods of plain own classes. -/
namespace OwnX
open PySem PySem.Spec PyProof.Rows L2

section
variable {X : Cx} {CX : CXT} {pins : List (Addr × Obj)} {σ : L2.St} {H : Hp} {s : Shared} {a C dx f p : Addr} {k : Nat} {fd : FuncData} {ps : List Str} {sp : Sp} {E : XK} {m : Str} {mc : Value}

/-- a def is called below the running body -/
theorem run_call {Q : VK} {A : Around} {us : List Value} {vs : List V} (F : FnOk X.prog X.w X.K X.mg X.base CX k f fd ps sp) (hr : Room k A) (e0 : Env0 X.prog X.w X.K X.mg X.base A X.stack s H) (hb : Binds X.K fd ps []) (hx : Passes CX X E)
    (I : Inv X pins σ H s) (r : Vals vs us) (h : sp vs H Q E) : wpAny (model X.prog X.w) A (call (.ref f) us) (EP X pins σ Q) X.xe s := by
  have hl : us.length = ps.length := by rw [← F.len _ _ _ _ h, r.length]
  refine wpAny_call (codeAny_mono (F.run A X.stack s H ⟨us, []⟩ us vs Q E hr e0 (by
    have := hb s us I.kIn (by simpa using hl)
    simpa using this) r h) fun r s' hq => ?_)
  cases r with
  | error e => exact hx pins σ H s e s' I hq
  | ok fl =>
    cases fl with
    | ret w => exact I.after hq
    | next => exact False.elim hq
    | brk => exact False.elim hq
    | cont => exact False.elim hq
theorem cmpback {P : Value → Shared → Prop} {z : V} {v : Value} {s' : Shared} (r : RelV z v) (h : P v s') : PySem.W.CmpBack P v s' := by
  cases z with
  | non => cases (show v = Value.none from r); exact h
  | bl b => cases (show v = Value.bool b from r); exact h
  | int i =>
    obtain ⟨t, e⟩ := (show ∃ t, v = Value.int i t from r)
    cases e
    exact h
  | str x =>
    obtain ⟨t, e⟩ := (show ∃ t, v = Value.str x t from r)
    cases e
    exact h
  | byt b =>
    obtain ⟨t, e⟩ := (show ∃ t, v = Value.bytes b t from r)
    cases e
    exact h
  | flt b =>
    obtain ⟨t, e⟩ := (show ∃ t, v = Value.float b t from r)
    cases e
    exact h
  | ref a => cases (show v = Value.ref a from r); exact h
  | ty n => cases (show v = Value.type n from r); exact h
/-- x op y, both instances of the class at C -/
def rOwn (C : Addr) (sp : Sp) (E : XK) : R2 := fun x y H Q => ∃ a dx fs b dy gs, x = .ref a ∧ y = .ref b ∧ H a = some (.ins C dx fs) ∧ H b = some (.ins C dy gs) ∧ sp [x, y] H Q E
theorem op_bin {op : Operator} (hc : PySem.W.selfFirst X.K C = true) (M : Meth X.K C (PySem.dunder op.info.2) f) (F : FnOk X.prog X.w X.K X.mg X.base CX k f fd ps sp) (hr : Room k X.A) (hb : Binds X.K fd ps []) (hx : Passes CX X E) :
    OpR X (binaryOp op) (rOwn C sp E) := by
  intro pins s σ H x y v u Q I rx ry h
  obtain ⟨a, dx, fs, b, dy, gs, rfl, rfl, ha, hb', q⟩ := h
  cases (show v = Value.ref a from rx)
  cases (show u = Value.ref b from ry)
  obtain ⟨mA, J, _⟩ := ins_get I.hok ha
  obtain ⟨mB, J', _⟩ := ins_get I.hok hb'
  obtain ⟨od, J, _⟩ := J.look
  obtain ⟨od', J', _⟩ := J'.look
  obtain ⟨m, hF⟩ := I.fr
  refine PySem.W.binop_K (op := op) hF I.ok.mod.kin J J'.type hc M.at_ M.fn ?_
  refine wpAny_mono (run_call (us := [.ref a, .ref b]) (vs := [.ref a, .ref b]) F hr I.env0 hb hx I (.cons rfl (.cons rfl .nil)) q) (fun w s' z => ?_) fun _ _ x => x
  obtain ⟨z', H', I', rz, qz⟩ := z
  exact cmpback rz ⟨z', H', I', rz, qz⟩
theorem op_cmp {op : CmpOp} (hop : ∀ a b, compareOp op a b = richCompare op a b) (M : Meth X.K C (cmpInfo op).2.1 f) (F : FnOk X.prog X.w X.K X.mg X.base CX k f fd ps sp) (hr : Room k X.A) (hb : Binds X.K fd ps []) (hx : Passes CX X E) :
    OpR X (compareOp op) (rOwn C sp E) := by
  intro pins s σ H x y v u Q I rx ry h
  obtain ⟨a, dx, fs, b, dy, gs, rfl, rfl, ha, hb', q⟩ := h
  cases (show v = Value.ref a from rx)
  cases (show u = Value.ref b from ry)
  obtain ⟨mA, J, _⟩ := ins_get I.hok ha
  obtain ⟨mB, J', _⟩ := ins_get I.hok hb'
  obtain ⟨od, J, _⟩ := J.look
  obtain ⟨od', J', _⟩ := J'.look
  obtain ⟨m, hF⟩ := I.fr
  rw [hop]
  refine PySem.W.cmp_K (op := op) (tb := .ref C) hr.units0 hF I.ok.mod.kin J J'.type (by simp [PySem.W.notFirst]) M.at_ M.fn ?_
  refine wpAny_mono (run_call (us := [.ref a, .ref b]) (vs := [.ref a, .ref b]) F hr I.env0 hb hx I (.cons rfl (.cons rfl .nil)) q) (fun w s' z => ?_) fun _ _ x => x
  obtain ⟨z', H', I', rz, qz⟩ := z
  exact cmpback rz ⟨z', H', I', rz, qz⟩
/-- ~x -/
def rOwn1 (C : Addr) (sp : Sp) (E : XK) : V → Hp → VK → Prop := fun x H Q => ∃ a dx fs, x = .ref a ∧ H a = some (.ins C dx fs) ∧ sp [x] H Q E
theorem un_inv (M : Meth X.K C "__invert__" f) (F : FnOk X.prog X.w X.K X.mg X.base CX k f fd ps sp) (hr : Room k X.A) (hb : Binds X.K fd ps []) (hx : Passes CX X E) : UnR X (unaryOp .Invert) (rOwn1 C sp E) := by
  intro pins s σ H x v Q I rx h
  obtain ⟨a, dx, fs, rfl, ha, q⟩ := h
  cases (show v = Value.ref a from rx)
  obtain ⟨mA, J, _⟩ := ins_get I.hok ha
  obtain ⟨od, J, _⟩ := J.look
  obtain ⟨m, hF⟩ := I.fr
  exact PySem.W.ksp_inv hF I.ok.mod.kin J M.at_ M.fn (run_call (us := [.ref a]) (vs := [.ref a]) F hr I.env0 hb hx I (.cons rfl .nil) q)
/-- the truth of x by its own __bool__ -/
def rTruth (C : Addr) (sp : Sp) (E : XK) : V → Hp → (Bool → Hp → Prop) → Prop := fun x H Q => ∃ a dx fs, x = .ref a ∧ H a = some (.ins C dx fs) ∧ sp [x] H (fun v H' => ∃ b, v = .bl b ∧ Q b H') E
theorem truth_at {A : Around} {Q : Bool → Hp → Prop} {E' : Value → Shared → Prop} (I : Inv X pins σ H s) (e : H a = some (.ins C dx fs)) (M : Meth X.K C "__bool__" f)
    (h : wpAny (model X.prog X.w) A (call (.ref f) [.ref a]) (EP X pins σ fun v H' => ∃ b, v = .bl b ∧ Q b H') E' s) : wpAny (model X.prog X.w) A (truthy (.ref a)) (TP X pins σ Q) E' s := by
  obtain ⟨mA, J, _⟩ := ins_get I.hok e
  obtain ⟨od, J, _⟩ := J.look
  obtain ⟨m, hF⟩ := I.fr
  refine PySem.W.truthy_K hF I.ok.mod.kin J M.at_ M.fn (wpAny_mono h (fun r s' hr => ?_) fun _ _ y => y)
  obtain ⟨v, H', I', rv, b, ev, q⟩ := hr
  subst ev
  cases (show r = Value.bool b from rv)
  exact ⟨H', I', q⟩
theorem tru_own (M : Meth X.K C "__bool__" f) (F : FnOk X.prog X.w X.K X.mg X.base CX k f fd ps sp) (hr : Room k X.A) (hb : Binds X.K fd ps []) (hx : Passes CX X E) : TruR X (rTruth C sp E) := by
  intro pins s σ H x v Q I rx h
  obtain ⟨a, dx, fs, rfl, ha, q⟩ := h
  cases (show v = Value.ref a from rx)
  exact truth_at I ha M (run_call (us := [.ref a]) (vs := [.ref a]) F hr I.env0 hb hx I (.cons rfl .nil) q)
/-- a test that is an own instance's truth -/
theorem pt_own {e : Expr} {ta : TE} (ha : PE X e ta) (M : Meth X.K C "__bool__" f) (F : FnOk X.prog X.w X.K X.mg X.base CX k f fd ps sp) (hr : Room k X.A) (hb : Binds X.K fd ps []) (hx : Passes CX X E)
    (he : ∀ whole, isTrue e X.env whole = (do let v ← whole; standAt e.pos; holding [v] (truthy v)) := by intro _; rfl) :
    PT X e (fun σ H Q => ta σ H fun x H' => rTruth C sp E x H' Q) := by
  refine ⟨fun pins s σ H Q I h => ?_⟩
  exact isTrue_plain (thn (ha.run pins s σ H _ I h) fun v s1 ⟨x, H1, I1, r1, q1⟩ => tru_own M F hr hb hx pins s1 σ H1 x v Q I1 r1 q1) (he _)
/-- bool(x) -/
theorem bool_own {A : Around} {x : Addr} {Q : Value → Shared → Prop} {E' : Value → Shared → Prop} {prog : Program} {w : World} {s : Shared}
    (h : wpAny (model prog w) A.in1.in1 (truthy (.ref x)) (fun b s₁ => Q (.bool b) s₁) E' s) : wpAny (model prog w) A (call (.type "bool") [.ref x]) Q E' s := by
  refine callType_codes (T := "bool") (Bi := Builtin.«object.__init__») (Q₁ := fun r s₁ => ∃ b, r = Value.bool b ∧ Q r s₁) PySem.F.called_bool (PySem.F.typeCall_bool_1 _) PySem.F.entry_object_init ?_ ?_
  · refine codeAny_of_tree ?_
    show wpAny _ A.in1.in1 (do checkBuiltinCall "bool.__new__" ⟨[.type "bool", .ref x], []⟩; again (.builtin "bool.__new__" ⟨[.type "bool", .ref x], []⟩)) _ _ s
    refine wpAny_bind (wpAny_of_eq (PySem.F.newCall_bool_1 _) (wpAny_pure ⟨plainId_quiet (by decide +kernel) _, codeAny_builtin PySem.F.entry_bool_new ?_⟩))
    rw [Around.under_plainId (by decide +kernel) _]
    unfold Builtin.«bool.__new__»
    refine wpAny_bind (wpAny_of_eq (a := true) (by kernel_rfl) ?_)
    refine PySem.W.KFB.if_not rfl ?_
    refine wpAny_bind (wpAny_of_eq (a := true) PySem.F.conv_sub_bool ?_)
    refine PySem.W.KFB.if_not rfl ?_
    refine wpAny_bind (wpAny_of_eq (a := [Value.ref x]) (by kernel_rfl) ?_)
    exact wpAny_bind (wpAny_mono h (fun b s₁ hb => wpAny_pure ⟨b, rfl, hb⟩) fun _ _ y => y)
  · rintro obj s₁ ⟨b, rfl, hq⟩
    exact ⟨rfl, PySem.F.args_object_init_2 _ _, object_init_meets PySem.F.called_bool.init.lookup PySem.F.called_bool.made (by decide) prog w A.in1 _ s₁ ⟨rfl, rfl, hq⟩⟩
end
end OwnX

set_option Elab.async false
set_option linter.all false
set_option maxRecDepth 100000
set_option maxHeartbeats 4000000
/-! The head's facts by a Hook of one Bool, defs at any address; calls of such defs. -/
namespace Hk
open PySem PySem.Spec PyProof.Rows L2
open He (ga ma ba eqO eqO_ok frG frG_in)
open He5 (DefA fnA asA wf)

def obsE (ex : PySem.W.Frag → Bool) (fn : List DefA) (K : PySem.W.Frag) : He.AlD := (ex K && fn.all fun d => d.ok K, fn.map fun d => fnA K (d.at_ K))
def valE (fn : List DefA) : He.AlD := (true, fn.map DefA.val)
def SaysE (ex : PySem.W.Frag → Bool) (fn : List DefA) (K : PySem.W.Frag) : Prop := obsE ex fn K = valE fn
def obsEG (n : Nat) (ex : PySem.W.Frag → Bool) (fn : List DefA) (g : Addr → Option Obj) : He.AlD := obsE ex fn (frG g (asA g n))
def hookE (n : Nat) (ex : PySem.W.Frag → Bool) (fn : List DefA) : PySem.W.Hook where
  α := He.AlD
  obs := fun s => obsEG n ex fn s.heap.get?
  val := fun _ => valE fn
  says := fun _ h => ∃ K : PySem.W.Frag, K.In h ∧ SaysE ex fn K
  of := fun _ _ e => ⟨_, frG_in, e⟩
  keeps := fun _ _ _ ⟨K, hK, c⟩ k => ⟨K, PySem.W.Frag.In.keeps hK k, c⟩
theorem obsEG_eq {n : Nat} {ex : PySem.W.Frag → Bool} {fn : List DefA} {g : Addr → Option Obj} {s : Shared} (h : ∀ a, g a = s.heap.get? a) : obsEG n ex fn g = (hookE n ex fn).obs s := by
  have e : g = s.heap.get? := funext h
  rw [e] <;> rfl
section
variable {ex : PySem.W.Frag → Bool} {fn : List DefA} {K : PySem.W.Frag}
theorem SaysE.more (c : SaysE ex fn K) : ex K = true :=
  (ba (show (ex K && fn.all fun d => d.ok K) = true from congrArg (fun z : He.AlD => z.1) c)).1
theorem SaysE.def_ (c : SaysE ex fn K) (i : Nat) {d : DefA} (h : fn[i]? = some d := by rfl) : ∃ fd, FunD K d.name d.qual d.params d.body d.scope (d.dvs K) (d.kws K) (d.at_ K) fd := by
  have c2 := (ba (show (ex K && fn.all fun d => d.ok K) = true from congrArg (fun z : He.AlD => z.1) c)).2
  have e : fn.map (fun d => fnA K (d.at_ K)) = fn.map DefA.val := congrArg (fun z : He.AlD => z.2) c
  have e2 : (fn.map fun d => fnA K (d.at_ K))[i]? = (fn.map DefA.val)[i]? := by rw [e]
  rw [List.getElem?_map, List.getElem?_map, h] at e2
  exact DefA.funD (Option.some.inj e2) (List.all_eq_true.mp c2 d (List.mem_of_getElem? h))
end

/-! ### facts as Bools -/
/-- the getter's address of the property f of the class x -/
def pg (K : PySem.W.Frag) (x f : Str) : Addr := wf K (ga K x) "property" f
/-- the static method's def -/
def sg (K : PySem.W.Frag) (x f : Str) : Addr := wf K (ga K x) "staticmethod" f
def cg (K : PySem.W.Frag) (x f : Str) : Addr := wf K (ga K x) "classmethod" f
def mt (K : PySem.W.Frag) (x f : Str) : Addr := ma K (ga K x) f
/-- the module's name is this value -/
def nsB (K : PySem.W.Frag) (x : Str) (r : Option Value) : Bool := eqO (PySem.W.nsIn K mainGlobals x) (some r)
def selfB (K : PySem.W.Frag) (x : Str) : Bool := PySem.W.selfFirst K (ga K x)
def propB (K : PySem.W.Frag) (x f : Str) : Bool := eqO (PySem.W.findIn K (.ref (ga K x)) f) (some (some (.ref (mt K x f)))) && (eqO (PySem.W.specialIn K (.ref (mt K x f)) "__get__") (some (some (.builtin "property.__get__"))) &&
  (decide (PySem.W.takesIn K (.ref (mt K x f)) = some true) && (match PySem.W.recIn K (mt K x f) "property" with
    | some (.ref _ :: _) => true
    | _ => false)))
theorem prop_ok {K : PySem.W.Frag} {x f : Str} (h : propB K x f = true) : PropOf K (ga K x) f (mt K x f) (pg K x f) := by
  obtain ⟨h1, h⟩ := ba h
  obtain ⟨h2, h⟩ := ba h
  obtain ⟨h3, h4⟩ := ba h
  refine ⟨eqO_ok h1, eqO_ok h2, of_decide_eq_true h3, ?_⟩
  unfold pg wf
  show ∃ rest, PySem.W.recIn K (mt K x f) "property" = some (.ref (match PySem.W.recIn K (mt K x f) "property" with | some (.ref f :: _) => f | _ => 0) :: rest)
  split at h4
  · rename_i g r e
    exact ⟨r, by rw [e]⟩
  · cases h4
def statB (K : PySem.W.Frag) (x f : Str) : Bool := He5.wrapB K (ga K x) "staticmethod" "staticmethod.__get__" f && (PySem.W.keepIn K (.ref (sg K x f)))
def readB (K : PySem.W.Frag) (x : Str) : Bool := PySem.W.readsIn K (ga K x) (.type "type") && eqO (PySem.W.specialIn K (.ref (ga K x)) "__getattribute__") (some (some (.builtin "type.__getattribute__")))
theorem read_ok {K : PySem.W.Frag} {x : Str} (h : readB K x = true) : ClX.CRead K (ga K x) (.type "type") := by
  obtain ⟨h1, h2⟩ := ba h
  exact ⟨h1, eqO_ok h2⟩
/-- the class's value v -/
def cvalB (K : PySem.W.Frag) (x f : Str) (v : V) : Bool := match PySem.W.findCls K (.ref (ga K x)) (.type "type") f with
  | some (.val u) => He.relB v u
  | _ => false
theorem cval_ok {K : PySem.W.Frag} {x f : Str} {v : V} (h : cvalB K x f v = true) : ∃ u, ClX.CVal K (ga K x) (.type "type") f v u := by
  unfold cvalB at h
  split at h
  · rename_i u e
    exact ⟨u, e, He.relB_ok h⟩
  · cases h
/-- an own error class: bm its bases -/
def excB (K : PySem.W.Frag) (x : Str) (bm : List Value) : Bool := PySem.W.excIn K (ga K x) bm "ValueError.__new__" && (PySem.W.keepIn K (.ref (ga K x)) && (decide (PySem.W.subIn K (.ref (ga K x)) (.type "BaseException") = some true) && decide (PySem.W.typeIn K (.ref (ga K x)) = some (.type "type"))))
structure ExcF (K : PySem.W.Frag) (x : Str) (bm : List Value) : Prop where
  ex : PySem.W.excIn K (ga K x) bm "ValueError.__new__" = true
  kp : PySem.W.keepIn K (.ref (ga K x)) = true
  sb : PySem.W.subIn K (.ref (ga K x)) (.type "BaseException") = some true
  ty : PySem.W.typeIn K (.ref (ga K x)) = some (.type "type")
theorem exc_ok {K : PySem.W.Frag} {x : Str} {bm : List Value} (c : excB K x bm = true) : ExcF K x bm := by
  obtain ⟨c1, c⟩ := ba c
  obtain ⟨c2, c⟩ := ba c
  obtain ⟨c3, c4⟩ := ba c
  exact ⟨c1, c2, of_decide_eq_true c3, of_decide_eq_true c4⟩
/-- the module's names as the table tells them -/
def NsAll (K : PySem.W.Frag) (mg : Str → Option Value) : Prop := ∀ x r, PySem.W.nsIn K mainGlobals x = some r → mg x = r
theorem nsAll_of {K : PySem.W.Frag} {h : Heap} {mg : Str → Option Value} (X : K.In h) (G : h.Ns mainGlobals mg) : NsAll K mg := fun x r e => by
  cases r with
  | none => exact PySem.W.mg_none_of X G e
  | some v => exact PySem.W.mg_of X G e
theorem ns_ok {K : PySem.W.Frag} {mg : Str → Option Value} {x : Str} {r : Option Value} (N : NsAll K mg) (c : nsB K x r = true) : mg x = r := N x r (eqO_ok c)
theorem glo_ok {K : PySem.W.Frag} {mg : Str → Option Value} {x : Str} (N : NsAll K mg) (c : (He.Fa.glo x).ok K = true) : mg x = some (.ref (ga K x)) := N x _ (eqO_ok c)
theorem free_ok {K : PySem.W.Frag} {mg : Str → Option Value} {x : Str} (N : NsAll K mg) (c : (He.Fa.free x).ok K = true) : mg x = none := N x _ (eqO_ok c)

/-! ### defs that keep promises -/
section
variable {P : Program} {w : World} {K : PySem.W.Frag} {mg : Str → Option Value} {base : Heap}
/-- the module's def x keeps the promise -/
structure GOk (P : Program) (w : World) (K : PySem.W.Frag) (mg : Str → Option Value) (base : Heap) (CX : CXT) (k : Nat) (x : Str) (ps : List Str) (sp : Sp) : Prop where
  g : mg x = some (.ref (ga K x))
  ex : ∃ fd, PySem.W.keepIn K (.ref (ga K x)) = true ∧ Binds K fd ps [] ∧ FnOk P w K mg base CX k (ga K x) fd ps sp
theorem GOk.mono {CX : CXT} {j k : Nat} {x : Str} {ps : List Str} {sp : Sp} (G : GOk P w K mg base CX j x ps sp) (h : j ≤ k) : GOk P w K mg base CX k x ps sp :=
  let ⟨fd, a, b, c⟩ := G.ex
  ⟨G.g, fd, a, b, c.mono h⟩
theorem GOk.imp {CX : CXT} {k : Nat} {x : Str} {ps : List Str} {sp sp' : Sp} (G : GOk P w K mg base CX k x ps sp) (h : ∀ vs H Q E, sp' vs H Q E → sp vs H Q E) : GOk P w K mg base CX k x ps sp' :=
  let ⟨fd, a, b, c⟩ := G.ex
  ⟨G.g, fd, a, b, c.imp h⟩
/-- a method, a getter, a static method at an address -/
structure AOk (P : Program) (w : World) (K : PySem.W.Frag) (mg : Str → Option Value) (base : Heap) (CX : CXT) (k : Nat) (a : Addr) (ps : List Str) (sp : Sp) : Prop where
  ex : ∃ fd, Binds K fd ps [] ∧ FnOk P w K mg base CX k a fd ps sp
theorem AOk.mono {CX : CXT} {j k : Nat} {a : Addr} {ps : List Str} {sp : Sp} (G : AOk P w K mg base CX j a ps sp) (h : j ≤ k) : AOk P w K mg base CX k a ps sp :=
  let ⟨fd, b, c⟩ := G.ex
  ⟨fd, b, c.mono h⟩
end
section
variable {X : Cx} {CX : CXT} {k : Nat} {x : Str} {ps : List Str} {sp : Sp} {E : XK} {e : Expr} {es : List Expr} {p pos apos : Pos} {t : TA} {ta : TE} {cls m : Str} {C : Addr} {o : Expr} {a b : Expr} {tb : TE}
/-- f(e, ..) -/
theorem pe_g (G : GOk X.prog X.w X.K X.mg X.base CX k x ps sp) (hr : Room k X.A) (hx : Passes CX X E) (ha : PA X (e :: es) t) (hg : Gl X x := by rfl)
    (hdb : (x == ("__debug__" : Str)) = false := by decide) (he : starEach (e :: es) X.env = (false, eval e X.env) :: starEach es X.env := by rfl) (hpl : (backTo pos (starEach es X.env)).any (·.1) = false := by rfl) :
    PE X (.Call (.Name x p) (e :: es) [] pos) (tCall sp [] E t) := by
  obtain ⟨fd, h1, h2, h3⟩ := G.ex
  exact pe_call h3 hr hg G.g h1 h2 .nil hx ha hdb he hpl
theorem pe_g0 (G : GOk X.prog X.w X.K X.mg X.base CX k x ps sp) (hr : Room k X.A) (hx : Passes CX X E) (hg : Gl X x := by rfl) (hdb : (x == ("__debug__" : Str)) = false := by decide) : PE X (.Call (.Name x p) [] [] pos) (tCall sp [] E tNil) := by
  obtain ⟨fd, h1, h2, h3⟩ := G.ex
  exact pe_call0 h3 hr hg G.g h1 h2 .nil hx hdb
/-- o.m(e, ..) -/
theorem pe_m {pl : Sem Bool} (G : AOk X.prog X.w X.K X.mg X.base CX k (ma X.K C m) ps sp) (c : Cls X.K C) (hm : Meth X.K C m (ma X.K C m)) (hr : Room k X.A) (hx : Passes CX X E) (he : PE X o ta) (ha : PA X (e :: es) t)
    (hst : starEach (e :: es) X.env = (false, eval e X.env) :: starEach es X.env := by rfl) (hpl : (backTo pos (starEach es X.env)).any (·.1) = false := by rfl)
    (ht : eval (.Call (.Attribute o m apos) (e :: es) [] pos) X.env = (do
      let ov ← eval o X.env
      standAt apos.atName
      let (f, first) ← holding [ov] (getMethod ov m pl)
      callWith pos f first (backTo pos (starEach (e :: es) X.env)) (backToKw pos (keywordEach [] X.env))) := by rfl) :
    PE X (.Call (.Attribute o m apos) (e :: es) [] pos) (tMeth C m sp [] E ta t) := by
  obtain ⟨fd, h2, h3⟩ := G.ex
  exact pe_meth he c hm h3 hr h2 .nil hx ha hst hpl ht
/-- o.f, a property -/
theorem pe_p {pr a' : Addr} (G : AOk X.prog X.w X.K X.mg X.base CX k a' ps sp) (c : Cls X.K C) (hp : PropOf X.K C m pr a') (hr : Room (k + 1) X.A) (hx : Passes CX X.nox E) (he : PE X o ta)
    (hab : attributeBase o m X.env (eval o X.env) = eval o X.env := by rfl) : PE X (.Attribute o m pos) (tProp C sp [] E ta) := by
  obtain ⟨fd, h2, h3⟩ := G.ex
  exact pe_prop he c hp h3 hr h2 .nil hx hab
theorem op_bin {op : Operator} (G : AOk X.prog X.w X.K X.mg X.base CX k f ps sp) (hc : PySem.W.selfFirst X.K C = true) (M : Meth X.K C (PySem.dunder op.info.2) f) (hr : Room k X.A) (hx : Passes CX X E) : OpR X (binaryOp op) (OwnX.rOwn C sp E) := by
  obtain ⟨fd, h2, h3⟩ := G.ex
  exact OwnX.op_bin hc M h3 hr h2 hx
theorem op_cmp {op : CmpOp} (G : AOk X.prog X.w X.K X.mg X.base CX k f ps sp) (hop : ∀ a b, compareOp op a b = richCompare op a b) (M : Meth X.K C (cmpInfo op).2.1 f) (hr : Room k X.A) (hx : Passes CX X E) : OpR X (compareOp op) (OwnX.rOwn C sp E) := by
  obtain ⟨fd, h2, h3⟩ := G.ex
  exact OwnX.op_cmp hop M h3 hr h2 hx
theorem un_inv (G : AOk X.prog X.w X.K X.mg X.base CX k f ps sp) (M : Meth X.K C "__invert__" f) (hr : Room k X.A) (hx : Passes CX X E) : UnR X (unaryOp .Invert) (OwnX.rOwn1 C sp E) := by
  obtain ⟨fd, h2, h3⟩ := G.ex
  exact OwnX.un_inv M h3 hr h2 hx
theorem pt_own (G : AOk X.prog X.w X.K X.mg X.base CX k f ps sp) (M : Meth X.K C "__bool__" f) (hr : Room k X.A) (hx : Passes CX X E) (ha : PE X e ta)
    (he : ∀ whole, isTrue e X.env whole = (do let v ← whole; standAt e.pos; holding [v] (truthy v)) := by intro _; rfl) : PT X e (fun σ H Q => ta σ H fun x H' => OwnX.rTruth C sp E x H' Q) := by
  obtain ⟨fd, h2, h3⟩ := G.ex
  exact OwnX.pt_own ha M h3 hr h2 hx he
/-- bool(x), x an own instance -/
theorem call_bool (G : AOk X.prog X.w X.K X.mg X.base CX k f ps sp) (M : Meth X.K C "__bool__" f) (hr : Room (k + 2) X.A) (hx : Passes CX X E) : CallR X (.type "bool") (fun xs H Q => ∃ x, xs = [x] ∧ OwnX.rTruth C sp E x H fun b H' => Q (.bl b) H') := by
  obtain ⟨fd, h2, h3⟩ := G.ex
  intro pins s σ H xs us Q I r h
  obtain ⟨x, rfl, a, dx, fs, rfl, ha, q⟩ := h
  obtain ⟨u, rfl, ru⟩ := r.one
  cases (show u = Value.ref a from ru)
  have hr2 : Room k X.A.in1.in1 := (show Room (k + 1) X.A.in1 from Room.in1 hr).in1
  refine OwnX.bool_own (wpAny_mono (OwnX.truth_at I ha M (OwnX.run_call (us := [.ref a]) (vs := [.ref a]) h3 hr2 I.env0.in1.in1 h2 hx I (.cons rfl .nil) q)) (fun b s' z => ?_) fun _ _ y => y)
  obtain ⟨H', I', q'⟩ := z
  exact ⟨.bl b, H', I', rfl, q'⟩
/-- C(e, ..) -/
theorem pe_mk (M : Mk X.K C f) (G : AOk X.prog X.w X.K X.mg X.base CX k f ps sp) (hm : X.mg x = some (.ref C)) (hr : Room (k + 1) X.A) (hx : Passes CX X E) (ha : PA X (e :: es) t) (hg : Gl X x := by rfl)
    (hdb : (x == ("__debug__" : Str)) = false := by decide) (he : starEach (e :: es) X.env = (false, eval e X.env) :: starEach es X.env := by rfl) (hpl : (backTo pos (starEach es X.env)).any (·.1) = false := by rfl) :
    PE X (.Call (.Name x p) (e :: es) [] pos) (tMake C sp [] E t) := by
  obtain ⟨fd, h2, h3⟩ := G.ex
  exact pe_make M h3 hr hg hm h2 .nil hx ha hdb he hpl
end
/-! ### static methods called off the class -/
/-- e.m(..), e the class at C -/
def tStat (C : Addr) (sp : Sp) (E : XK) (ta : TE) (t : TA) : TE := fun σ H Q => ta σ H fun x H1 => x = .ref C ∧ t σ H1 fun vs H2 => sp vs H2 Q E
section
variable {X : Cx} {CX : CXT} {k : Nat} {x : Str} {ps : List Str} {sp : Sp} {E : XK} {e : Expr} {es : List Expr} {p pos apos : Pos} {t : TA} {ta : TE} {m : Str} {o : Expr}
theorem pe_s {pl : Sem Bool} (G : AOk X.prog X.w X.K X.mg X.base CX k (sg X.K x m) ps sp) (r : readB X.K x = true) (c : statB X.K x m = true) (hr : Room k X.A) (hx : Passes CX X E) (hex : PE X o ta) (ha : PA X (e :: es) t)
    (hst : starEach (e :: es) X.env = (false, eval e X.env) :: starEach es X.env := by rfl) (hpl : (backTo pos (starEach es X.env)).any (·.1) = false := by rfl)
    (ht : eval (.Call (.Attribute o m apos) (e :: es) [] pos) X.env = (do
      let ov ← eval o X.env
      standAt apos.atName
      let (f, first) ← holding [ov] (getMethod ov m pl)
      callWith pos f first (backTo pos (starEach (e :: es) X.env)) (backToKw pos (keywordEach [] X.env))) := by rfl) :
    PE X (.Call (.Attribute o m apos) (e :: es) [] pos) (tStat (ga X.K x) sp E ta t) := by
  obtain ⟨fd, h2, h3⟩ := G.ex
  obtain ⟨c1, c2⟩ := ba c
  obtain ⟨w1, rest, w2⟩ := He5.wrapB_ok c1
  have R := read_ok r
  refine ⟨fun pins s σ H Q I h => ?_⟩
  refine PySem.W.methodCall_KW (pl := pl) (thn (hex.run pins s σ H _ I h) fun u s1 ⟨y, H1, I1, rx, ex, q⟩ => ?_) ht
  subst ex
  obtain rfl : u = Value.ref (ga X.K x) := rx
  refine PySem.W.method_cls I1.kIn R.ga (PySem.W.cls_bind I1.kIn R.rd w1 (wpAny_call (PySem.W.sm_get (s := { s1 with toks := s1.toks + 1 }) I1.kIn w2 (PySem.W.handed_on rfl ?_))))
  have I2 := I1.tok (s1.toks + 1)
  refine PySem.W.callWith_K (h₀ := X.base) I2.ok.mod.kin c2 (thn (ha.run pos pins _ σ H1 _ I2 q) fun us s3 ⟨vs, H2, I3, rv, q2⟩ => ⟨I3.kIn, ?_⟩) hst hpl
  exact OwnX.run_call h3 hr I3.env0 h2 hx I3 rv q2
end
/-! ### a def of the text and its promise -/
section
variable {P : Program} {w : World} {K : PySem.W.Frag} {mg : Str → Option Value} {base : Heap} {nm qual : Str} {st : Stmt} {N ps : List Str} {k : Nat} {CX : CXT} {sp : Sp} {a : Addr}
theorem mkFX (F : ∃ fd, FunD K nm qual (defArgs st) (defBody st) (defScope st) [] [] a fd)
    (hb : ∀ (kV doc pm : Value) (an : Option Addr) (cdv ct : Value) (us : List Value), us.length = ps.length → bindArgs (PySem.W.fnOf nm qual (defArgs st) (defBody st) (defScope st) .none kV doc pm an cdv ct) ⟨us, []⟩ = pure (ps.zip us))
    (S : FnScope N ps (defScope st)) (len : ∀ vs H Q E, sp vs H Q E → vs.length = ps.length)
    (hbody : ∀ (cdv : Value) (A : Around) (outer : List Env) (s : Shared) (H : Hp) (vs : List V) (Q : VK) (E : XK), Room k (A.deeper (envOfC qual (defScope st) s.heap.objs.size a cdv)) → sp vs H Q E →
      ∃ t, PSs (cxOf CX P w K mg base N qual (defScope st) a cdv A outer s H E) (defBody st) t ∧ t { nx := fun _ H' => Q .non H', rt := Q } (start N vs) H) :
    ∃ fd, PySem.W.keepIn K (.ref a) = true ∧ Binds K fd ps [] ∧ FnOk P w K mg base CX (k + 1) a fd ps sp := by
  obtain ⟨fd, F⟩ := F
  exact ⟨fd, F.kp, F.bindsN hb, F.ok S len hbody⟩
theorem mkGX (g : mg nm = some (.ref (ga K nm))) (F : ∃ fd, FunD K nm qual (defArgs st) (defBody st) (defScope st) [] [] (ga K nm) fd)
    (hb : ∀ (kV doc pm : Value) (an : Option Addr) (cdv ct : Value) (us : List Value), us.length = ps.length → bindArgs (PySem.W.fnOf nm qual (defArgs st) (defBody st) (defScope st) .none kV doc pm an cdv ct) ⟨us, []⟩ = pure (ps.zip us))
    (S : FnScope N ps (defScope st)) (len : ∀ vs H Q E, sp vs H Q E → vs.length = ps.length)
    (hbody : ∀ (cdv : Value) (A : Around) (outer : List Env) (s : Shared) (H : Hp) (vs : List V) (Q : VK) (E : XK), Room k (A.deeper (envOfC qual (defScope st) s.heap.objs.size (ga K nm) cdv)) → sp vs H Q E →
      ∃ t, PSs (cxOf CX P w K mg base N qual (defScope st) (ga K nm) cdv A outer s H E) (defBody st) t ∧ t { nx := fun _ H' => Q .non H', rt := Q } (start N vs) H) : GOk P w K mg base CX (k + 1) nm ps sp :=
  ⟨g, mkFX F hb S len hbody⟩
theorem mkAX (F : ∃ fd, FunD K nm qual (defArgs st) (defBody st) (defScope st) [] [] a fd)
    (hb : ∀ (kV doc pm : Value) (an : Option Addr) (cdv ct : Value) (us : List Value), us.length = ps.length → bindArgs (PySem.W.fnOf nm qual (defArgs st) (defBody st) (defScope st) .none kV doc pm an cdv ct) ⟨us, []⟩ = pure (ps.zip us))
    (S : FnScope N ps (defScope st)) (len : ∀ vs H Q E, sp vs H Q E → vs.length = ps.length)
    (hbody : ∀ (cdv : Value) (A : Around) (outer : List Env) (s : Shared) (H : Hp) (vs : List V) (Q : VK) (E : XK), Room k (A.deeper (envOfC qual (defScope st) s.heap.objs.size a cdv)) → sp vs H Q E →
      ∃ t, PSs (cxOf CX P w K mg base N qual (defScope st) a cdv A outer s H E) (defBody st) t ∧ t { nx := fun _ H' => Q .non H', rt := Q } (start N vs) H) : AOk P w K mg base CX (k + 1) a ps sp :=
  let ⟨fd, _, b, c⟩ := mkFX F hb S len hbody
  ⟨fd, b, c⟩
theorem mkF (F : ∃ fd, FunD K nm qual (defArgs st) (defBody st) (defScope st) [] [] a fd)
    (hb : ∀ (kV doc pm : Value) (an : Option Addr) (cdv ct : Value) (us : List Value), us.length = ps.length → bindArgs (PySem.W.fnOf nm qual (defArgs st) (defBody st) (defScope st) .none kV doc pm an cdv ct) ⟨us, []⟩ = pure (ps.zip us))
    (S : FnScope N ps (defScope st)) (len : ∀ vs H Q E, sp vs H Q E → vs.length = ps.length)
    (hbody : ∀ (cdv : Value) (A : Around) (outer : List Env) (s : Shared) (H : Hp) (vs : List V) (Q : VK) (E : XK), Room k (A.deeper (envOfC qual (defScope st) s.heap.objs.size a cdv)) → sp vs H Q E →
      ∃ t, PSs (cxOf CX P w K mg base N qual (defScope st) a cdv A outer s H E).nox (defBody st) t ∧ t { nx := fun _ H' => Q .non H', rt := Q } (start N vs) H) :
    ∃ fd, PySem.W.keepIn K (.ref a) = true ∧ Binds K fd ps [] ∧ FnOk P w K mg base CX (k + 1) a fd ps sp := by
  obtain ⟨fd, F⟩ := F
  exact ⟨fd, F.kp, F.bindsN hb, F.ok S len fun cdv A outer s H vs Q E hr h => let ⟨t, h1, h2⟩ := hbody cdv A outer s H vs Q E hr h; ⟨t, h1.nox, h2⟩⟩
theorem mkG (g : mg nm = some (.ref (ga K nm))) (F : ∃ fd, FunD K nm qual (defArgs st) (defBody st) (defScope st) [] [] (ga K nm) fd)
    (hb : ∀ (kV doc pm : Value) (an : Option Addr) (cdv ct : Value) (us : List Value), us.length = ps.length → bindArgs (PySem.W.fnOf nm qual (defArgs st) (defBody st) (defScope st) .none kV doc pm an cdv ct) ⟨us, []⟩ = pure (ps.zip us))
    (S : FnScope N ps (defScope st)) (len : ∀ vs H Q E, sp vs H Q E → vs.length = ps.length)
    (hbody : ∀ (cdv : Value) (A : Around) (outer : List Env) (s : Shared) (H : Hp) (vs : List V) (Q : VK) (E : XK), Room k (A.deeper (envOfC qual (defScope st) s.heap.objs.size (ga K nm) cdv)) → sp vs H Q E →
      ∃ t, PSs (cxOf CX P w K mg base N qual (defScope st) (ga K nm) cdv A outer s H E).nox (defBody st) t ∧ t { nx := fun _ H' => Q .non H', rt := Q } (start N vs) H) : GOk P w K mg base CX (k + 1) nm ps sp :=
  ⟨g, mkF F hb S len hbody⟩
theorem mkA (F : ∃ fd, FunD K nm qual (defArgs st) (defBody st) (defScope st) [] [] a fd)
    (hb : ∀ (kV doc pm : Value) (an : Option Addr) (cdv ct : Value) (us : List Value), us.length = ps.length → bindArgs (PySem.W.fnOf nm qual (defArgs st) (defBody st) (defScope st) .none kV doc pm an cdv ct) ⟨us, []⟩ = pure (ps.zip us))
    (S : FnScope N ps (defScope st)) (len : ∀ vs H Q E, sp vs H Q E → vs.length = ps.length)
    (hbody : ∀ (cdv : Value) (A : Around) (outer : List Env) (s : Shared) (H : Hp) (vs : List V) (Q : VK) (E : XK), Room k (A.deeper (envOfC qual (defScope st) s.heap.objs.size a cdv)) → sp vs H Q E →
      ∃ t, PSs (cxOf CX P w K mg base N qual (defScope st) a cdv A outer s H E).nox (defBody st) t ∧ t { nx := fun _ H' => Q .non H', rt := Q } (start N vs) H) : AOk P w K mg base CX (k + 1) a ps sp :=
  let ⟨fd, _, b, c⟩ := mkF F hb S len hbody
  ⟨fd, b, c⟩
end
theorem lk_hd {f : Str} {v : V} {l : List (Str × V)} : ((f, v) :: l).lookup f = some v := by simp [List.lookup]
theorem same_upd {H : Hp} {p : Addr} {o : HO} (h : H p = none) : Same H (upd H p o) := fun b x e => by
  rw [upd_ne (ne_of_none e h)]
  exact e
/-- isinstance(x, C), x an instance of an own class -/
theorem call_isiO {X : Cx} : CallR X (.builtin "isinstance") (rIsi X.K) := call_isi
/-! ### isinstance: what the classes must say -/
structure IsiF (K : PySem.W.Frag) (C : Addr) : Prop where
  cl : Cls K C
  ha : PySem.W.findIn K (.ref C) "__class__" = some (some (.builtin "object.__class__"))
  hn : PySem.W.specialIn K (.builtin "object.__class__") "__get__" = some (some (.builtin "getset_descriptor.__get__"))
  ht : PySem.W.takesIn K (.builtin "object.__class__") = some true
  hm : PySem.W.mroIn K C (.type "object") = some true
def isiB (K : PySem.W.Frag) (x : Str) : Bool := (He.Fa.cls x).ok K && (eqO (PySem.W.findIn K (.ref (ga K x)) "__class__") (some (some (.builtin "object.__class__"))) && (eqO (PySem.W.specialIn K (.builtin "object.__class__") "__get__") (some (some (.builtin "getset_descriptor.__get__"))) &&
  (decide (PySem.W.takesIn K (.builtin "object.__class__") = some true) && decide (PySem.W.mroIn K (ga K x) (.type "object") = some true))))
theorem isi_ok {K : PySem.W.Frag} {x : Str} (h : isiB K x = true) : IsiF K (ga K x) := by
  obtain ⟨h1, h⟩ := ba h
  obtain ⟨h2, h⟩ := ba h
  obtain ⟨h3, h⟩ := ba h
  obtain ⟨h4, h5⟩ := ba h
  exact ⟨He.cls_ok h1, eqO_ok h2, eqO_ok h3, of_decide_eq_true h4, of_decide_eq_true h5⟩
theorem IsiF.ty {K : PySem.W.Frag} {C a dx : Addr} {fs : List (Str × V)} {H : Hp} (F : IsiF K C) (e : H a = some (.ins C dx fs)) : TyX K H (.ref a) (.ref C) := .base (.ins e F.cl F.ha F.hn F.ht F.hm)
def excCB (K : PySem.W.Frag) (x : Str) : Bool := eqO (PySem.W.findIn K (.ref (ga K x)) "__getattribute__") (some (some (.builtin "BaseException.__getattribute__"))) && (eqO (PySem.W.findIn K (.ref (ga K x)) "__getattr__") (some none) &&
  (decide (PySem.W.subIn K (.ref (ga K x)) (.type "BaseException") = some true) && (PySem.W.hasDictIn K (ga K x) && (eqO (PySem.W.findIn K (.ref (ga K x)) "__class__") (some (some (.builtin "object.__class__"))) && (eqO (PySem.W.specialIn K (.builtin "object.__class__") "__get__") (some (some (.builtin "getset_descriptor.__get__"))) &&
  (decide (PySem.W.takesIn K (.builtin "object.__class__") = some true) && decide (PySem.W.mroIn K (ga K x) (.type "object") = some true)))))))
theorem excC_ok {K : PySem.W.Frag} {x : Str} (h : excCB K x = true) : ExcC K (ga K x) := by
  obtain ⟨h1, h⟩ := ba h
  obtain ⟨h2, h⟩ := ba h
  obtain ⟨h3, h⟩ := ba h
  obtain ⟨h4, h⟩ := ba h
  obtain ⟨h5, h⟩ := ba h
  obtain ⟨h6, h⟩ := ba h
  obtain ⟨h7, h8⟩ := ba h
  exact ⟨eqO_ok h1, eqO_ok h2, of_decide_eq_true h3, h4, eqO_ok h5, eqO_ok h6, of_decide_eq_true h7, of_decide_eq_true h8⟩
def kitB (K : PySem.W.Frag) (x y : Str) (b : Bool) : Bool := decide (PySem.W.kitOne K (.ref (ga K x)) (.ref (ga K y)) = some b)
/-! ### is True, is False -/
def rIsBo : R2 := fun x y H Q => ∃ b : Bool, y = .bl b ∧ Q (.bl (decide (x = .bl b))) H
section
variable {X : Cx}
theorem op_isB : OpR X (compareOp .Is) rIsBo := by
  intro pins s σ H x y v u Q I rx ry h
  obtain ⟨b, rfl, q⟩ := h
  cases (show u = Value.bool b from ry)
  by_cases e : x = .bl b
  · subst e
    cases (show v = Value.bool b from rx)
    exact wpAny_is_self rfl ⟨.bl true, H, I, rfl, by simpa using q⟩
  · refine wpAny_is_other (by cases x <;> first | (cases rx; rfl) | (obtain ⟨t, rfl⟩ := rx; rfl)) (fun z => ?_) ⟨.bl false, H, I, rfl, by simpa [e] using q⟩
    cases x <;> first
      | (cases rx; exact e (by cases z; rfl))
      | (obtain ⟨t, rfl⟩ := rx; cases z)
      | (cases rx; cases z)
end
/-- a tuple of the module, as a thing with methods -/
def tupO (K : PySem.W.Frag) (x : Str) : Bool := match K.lookup (ga K x) with
  | some ⟨.type c, none, _, _⟩ => decide (c = "tuple")
  | _ => false
theorem tupO_ok {K : PySem.W.Frag} {x : Str} (h : tupO K x = true) (H : Hp) : tyV K "tuple" (.ref (ga K x)) H := by
  unfold tupO at h
  cases q : K.lookup (ga K x) with
  | none => rw [q] at h; cases h
  | some o =>
    obtain ⟨oc, od, dt, sl⟩ := o
    rw [q] at h
    cases oc with
    | type c =>
      cases od with
      | none => exact Or.inr (Or.inl ⟨rfl, _, q, congrArg Value.type (of_decide_eq_true h), rfl⟩)
      | some d => cases h
    | _ => cases od <;> cases h
/-- a statement, and what follows it from whatever it leaves -/
theorem seq_rest {A B : TS} {D : Ends} {σ : L2.St} {H : Hp} (W : L2.St → Hp → Prop) (h : ∀ nx : L2.St → Hp → Prop, (∀ σ' H', W σ' H' → nx σ' H') → A { D with nx := nx } σ H) (r : ∀ σ' H', W σ' H' → B D σ' H') : tSeq A B D σ H := h (B D) r
theorem dI (a b : Int) : decide (V.int a = V.int b) = decide (a = b) := by simp only [V.int.injEq]
theorem dS (a b : Str) : decide (V.str a = V.str b) = decide (a = b) := by simp only [V.str.injEq]
theorem dB (a b : Bool) : decide (V.bl a = V.bl b) = decide (a = b) := by simp only [V.bl.injEq]
theorem fmod_lo {a b : Int} (h : 0 < b) : 0 ≤ a.fmod b := by rw [Int.fmod_eq_emod_of_nonneg _ (Int.le_of_lt h)]; exact Int.emod_nonneg _ (by omega)
theorem fmod_hi {a b : Int} (h : 0 < b) : a.fmod b < b := by rw [Int.fmod_eq_emod_of_nonneg _ (Int.le_of_lt h)]; exact Int.emod_lt_of_pos _ h
theorem atI_of {α : Type} {xs : List α} {i : Int} (h0 : 0 ≤ i) (h1 : i < xs.length) : ∃ x, atI xs i = some x ∧ xs[i.toNat]? = some x := by
  obtain ⟨j, rfl⟩ : ∃ j : Nat, i = (j : Int) := ⟨i.toNat, by omega⟩
  have hj : j < xs.length := by omega
  refine ⟨xs[j], atI_nat (List.getElem?_eq_getElem hj), ?_⟩
  rw [Int.toNat_natCast]
  exact List.getElem?_eq_getElem hj
theorem atI_map {α β : Type} {f : α → β} {xs : List α} {i : Int} (h0 : 0 ≤ i) (h1 : i < xs.length) : ∃ x, atI (xs.map f) i = some (f x) ∧ xs[i.toNat]? = some x := by
  obtain ⟨y, h2, h3⟩ := atI_of (xs := xs.map f) h0 (by rw [List.length_map]; exact h1)
  rw [List.getElem?_map] at h3
  cases e : xs[i.toNat]? with
  | none => rw [e] at h3; cases h3
  | some x =>
    rw [e] at h3
    cases h3
    exact ⟨x, h2, rfl⟩
theorem seq_skip {A B : TS} {D : Ends} {σ : L2.St} {H : Hp} (h : ∀ nx : L2.St → Hp → Prop, nx σ H → A { D with nx := nx } σ H) (r : B D σ H) : tSeq A B D σ H := h (B D) r
section
variable {K : PySem.W.Frag} {wi : TI} {g : TG} {tb : TS} {D : Ends} {σ : L2.St} {H H1 : Hp}
/-- for k in range(..) -/
theorem tfor_rng {lo : Int} {n : Nat} (Pv : Nat → L2.St → Hp → Prop) (hw : ∀ R : It → Hp → Prop, R (Itr lo n) H1 → wi σ H R) (h0 : Pv 0 σ H1)
    (hs : ∀ (i : Nat) σ H (nx : L2.St → Hp → Prop), i < n → Pv i σ H → (∀ σ' H', Pv (i + 1) σ' H' → nx σ' H') → g (.int (lo + i)) σ H fun σ2 H2 => tb { D with nx := nx, ct := nx, bk := D.nx } σ2 H2) (hd : ∀ σ H, Pv n σ H → D.nx σ H) : tFor wi g tb D σ H :=
  hw _ (for_range Pv h0 (fun i σ H hi hp => hs i σ H _ hi hp fun _ _ q => q) hd)
/-- for x in a list that stands still -/
theorem tfor_lst {a : Addr} {xs : List V} (Pv : Nat → L2.St → Hp → Prop) (hw : ∀ R : It → Hp → Prop, R (Itl K a) H1 → wi σ H R) (h0 : Pv 0 σ H1) (hl : ∀ i σ H, i ≤ xs.length → Pv i σ H → SqL K H a xs)
    (hs : ∀ (i : Nat) x σ H (nx : L2.St → Hp → Prop), xs[i]? = some x → Pv i σ H → (∀ σ' H', Pv (i + 1) σ' H' → nx σ' H') → g x σ H fun σ2 H2 => tb { D with nx := nx, ct := nx, bk := D.nx } σ2 H2) (hd : ∀ σ H, Pv xs.length σ H → D.nx σ H) : tFor wi g tb D σ H :=
  hw _ (for_list Pv h0 hl (fun i x σ H hi hp => hs i x σ H _ hi hp fun _ _ q => q) hd)
theorem tfor_tup {a : Addr} {xs : List V} (Pv : Nat → L2.St → Hp → Prop) (hw : ∀ R : It → Hp → Prop, R (Itt K a) H1 → wi σ H R) (h0 : Pv 0 σ H1) (hl : ∀ i σ H, i ≤ xs.length → Pv i σ H → SqT K H a xs)
    (hs : ∀ (i : Nat) x σ H (nx : L2.St → Hp → Prop), xs[i]? = some x → Pv i σ H → (∀ σ' H', Pv (i + 1) σ' H' → nx σ' H') → g x σ H fun σ2 H2 => tb { D with nx := nx, ct := nx, bk := D.nx } σ2 H2) (hd : ∀ σ H, Pv xs.length σ H → D.nx σ H) : tFor wi g tb D σ H :=
  hw _ (for_tup Pv h0 hl (fun i x σ H hi hp => hs i x σ H _ hi hp fun _ _ q => q) hd)
end
theorem ty_SqT {K : PySem.W.Frag} {H : Hp} {a : Addr} {xs : List V} (h : SqT K H a xs) : TyX K H (.ref a) (.type "tuple") := by
  rcases h with (h | ⟨o, h⟩) | ⟨o, its, n, h1, h2, _⟩
  · exact .base (.tup h)
  · exact .fTuple h
  · exact .kTuple h1 h2
theorem ty_SqL {K : PySem.W.Frag} {H : Hp} {a : Addr} {xs : List V} (h : SqL K H a xs) : TyX K H (.ref a) (.type "list") := by
  rcases h with (h | ⟨o, h⟩) | ⟨o, its, n, h1, h2, _⟩
  · exact .base (.lst h)
  · exact .base (.frz h)
  · exact .kList h1 h2
theorem DpAll.len {K : PySem.W.Frag} {H : Hp} : ∀ {xs : List V} {ds : List PyData}, DpAll K H xs ds → xs.length = ds.length
  | _, _, .nil => rfl
  | _, _, .cons _ t => congrArg Nat.succ (DpAll.len t)
theorem DpAll.get {K : PySem.W.Frag} {H : Hp} : ∀ {xs : List V} {ds : List PyData} {i : Nat} {d : PyData}, DpAll K H xs ds → ds[i]? = some d → ∃ x, xs[i]? = some x ∧ Dp K H x d
  | _, _, _, _, .nil, e => by simp at e
  | _, _, 0, _, .cons h _, e => by simp at e; subst e; exact ⟨_, rfl, h⟩
  | _, _, i + 1, d, .cons _ t, e => by
    obtain ⟨x, h1, h2⟩ := DpAll.get (i := i) (d := d) t (by simpa using e)
    exact ⟨x, by simpa using h1, h2⟩
/-! ### calls in a try's body -/
section
variable {X : Cx} {CX : CXT} {k : Nat} {x : Str} {ps : List Str} {sp : Sp} {E : L2.St → XK} {e : Expr} {es : List Expr} {p pos apos : Pos} {t : TA} {ta : TE} {m : Str} {o : Expr} {C : Addr}
theorem pe_gS (G : GOk X.prog X.w X.K X.mg X.base CX k x ps sp) (hr : Room k X.A) (hx : ∀ σ, PassesAt CX X σ (E σ)) (ha : PA X (e :: es) t) (hg : Gl X x := by rfl)
    (hdb : (x == ("__debug__" : Str)) = false := by decide) (he : starEach (e :: es) X.env = (false, eval e X.env) :: starEach es X.env := by rfl) (hpl : (backTo pos (starEach es X.env)).any (·.1) = false := by rfl) :
    PE X (.Call (.Name x p) (e :: es) [] pos) (tCallS sp E t) := by
  obtain ⟨fd, h1, h2, h3⟩ := G.ex
  exact pe_callS h3 hr hg G.g h1 h2 hx ha hdb he hpl
def tStatS (C : Addr) (sp : Sp) (E : L2.St → XK) (ta : TE) (t : TA) : TE := fun σ H Q => ta σ H fun x H1 => x = .ref C ∧ t σ H1 fun vs H2 => sp vs H2 Q (E σ)
theorem pe_sS {pl : Sem Bool} {K : PySem.W.Frag} (G : AOk X.prog X.w X.K X.mg X.base CX k (sg K x m) ps sp) (r : readB K x = true) (c : statB K x m = true) (hr : Room k X.A) (hx : ∀ σ, PassesAt CX X σ (E σ)) (hex : PE X o ta) (ha : PA X (e :: es) t) (hK : X.K = K := by rfl)
    (hst : starEach (e :: es) X.env = (false, eval e X.env) :: starEach es X.env := by rfl) (hpl : (backTo pos (starEach es X.env)).any (·.1) = false := by rfl)
    (ht : eval (.Call (.Attribute o m apos) (e :: es) [] pos) X.env = (do
      let ov ← eval o X.env
      standAt apos.atName
      let (f, first) ← holding [ov] (getMethod ov m pl)
      callWith pos f first (backTo pos (starEach (e :: es) X.env)) (backToKw pos (keywordEach [] X.env))) := by rfl) :
    PE X (.Call (.Attribute o m apos) (e :: es) [] pos) (tStatS (ga K x) sp E ta t) := by
  subst hK
  obtain ⟨fd, h2, h3⟩ := G.ex
  obtain ⟨c1, c2⟩ := ba c
  obtain ⟨w1, rest, w2⟩ := He5.wrapB_ok c1
  have R := read_ok r
  refine ⟨fun pins s σ H Q I h => ?_⟩
  refine PySem.W.methodCall_KW (pl := pl) (thn (hex.run pins s σ H _ I h) fun u s1 ⟨y, H1, I1, rx, ex, q⟩ => ?_) ht
  subst ex
  obtain rfl : u = Value.ref (ga X.K x) := rx
  refine PySem.W.method_cls I1.kIn R.ga (PySem.W.cls_bind I1.kIn R.rd w1 (wpAny_call (PySem.W.sm_get (s := { s1 with toks := s1.toks + 1 }) I1.kIn w2 (PySem.W.handed_on rfl ?_))))
  have I2 := I1.tok (s1.toks + 1)
  refine PySem.W.callWith_K (h₀ := X.base) I2.ok.mod.kin c2 (thn (ha.run pos pins _ σ H1 _ I2 q) fun us s3 ⟨vs, H2, I3, rv, q2⟩ => ⟨I3.kIn, ?_⟩) hst hpl
  exact run_fnS h3 hr h2 (hx σ) I3 rv q2
/-- isinstance(e, C), e the exception that the suite holds, of whatever own class -/
theorem call_isEx {a : Addr} {oe : Obj} {cls : Value} {d : Option Addr} {pn : List (Addr × Obj)} (hz : Zc cls d oe) (hf : ∃ vs, oe.data = .fields vs) :
    CallR (X.suite a ((a, oe) :: pn)) (.builtin "isinstance") (fun xs H Q => ∃ D, cls = .ref D ∧ d = none ∧ ExcC X.K D ∧ rIsE X.K D a xs H Q) := by
  intro pins s σ H xs us Q I r h
  obtain ⟨D, rfl, rfl, c, q⟩ := h
  exact call_isE c hz hf pins s σ H xs us Q I r q
end
theorem op_notIn_seqK {X : Cx} {K : PySem.W.Frag} (h : X.K = K := by rfl) : OpR X (compareOp .NotIn) (rIn K true) := h ▸ op_notIn_seq
theorem op_in_seqK {X : Cx} {K : PySem.W.Frag} (h : X.K = K := by rfl) : OpR X (compareOp .In) (rIn K false) := h ▸ op_in_seq
theorem mkL {P : Program} {w : World} {K : PySem.W.Frag} {mg : Str → Option Value} {base : Heap} {nm qual : Str} {st : Stmt} {N ps : List Str} {k : Nat} {CX : CXT} {sp : Sp} {a : Addr} {fd : FuncData} (F : FunD K nm qual (defArgs st) (defBody st) (defScope st) [] [] a fd)
    (S : FnScope N ps (defScope st)) (len : ∀ vs H Q E, sp vs H Q E → vs.length = ps.length)
    (hbody : ∀ (cdv : Value) (A : Around) (outer : List Env) (s : Shared) (H : Hp) (vs : List V) (Q : VK) (E : XK), Room k (A.deeper (envOfC qual (defScope st) s.heap.objs.size a cdv)) → sp vs H Q E →
      ∃ t, PSs (cxOf CX P w K mg base N qual (defScope st) a cdv A outer s H E).nox (defBody st) t ∧ t { nx := fun _ H' => Q .non H', rt := Q } (start N vs) H) : FnOk P w K mg base CX (k + 1) a fd ps sp :=
  F.ok S len fun cdv A outer s H vs Q E hr h => let ⟨t, h1, h2⟩ := hbody cdv A outer s H vs Q E hr h; ⟨t, h1.nox, h2⟩
end Hk

set_option Elab.async false
set_option linter.all false
set_option maxRecDepth 100000
set_option maxHeartbeats 4000000
namespace K00
open PySem PySem.Spec PyProof.Rows L2
open He (ga ma ba)
def top (i : Nat) : Stmt := PySem.Challenge.pw_bookstogether_k00_truth_values.main.body.getD i (.Pass ⟨0, 0, 0, 0⟩)
abbrev s_Truth_init : Stmt := inClass (top 7) 1
abbrev s_Truth_of : Stmt := inClass (top 7) 2
abbrev s_Truth_from_word : Stmt := inClass (top 7) 3
abbrev s_Truth_value : Stmt := inClass (top 7) 4
abbrev s_Truth_word : Stmt := inClass (top 7) 5
abbrev s_Truth_and : Stmt := inClass (top 7) 6
abbrev s_Truth_or : Stmt := inClass (top 7) 7
abbrev s_Truth_xor : Stmt := inClass (top 7) 8
abbrev s_Truth_invert : Stmt := inClass (top 7) 9
abbrev s_Truth_eq : Stmt := inClass (top 7) 10
abbrev s_Truth_ne : Stmt := inClass (top 7) 11
abbrev s_Truth_lt : Stmt := inClass (top 7) 12
abbrev s_Truth_le : Stmt := inClass (top 7) 13
abbrev s_Truth_bool : Stmt := inClass (top 7) 14
abbrev s_box : Stmt := top 9
abbrev s_draw : Stmt := top 10
abbrev s_pick : Stmt := top 11
abbrev s_alike : Stmt := top 12
abbrev s_made : Stmt := top 13
abbrev s_is_rank : Stmt := top 14
abbrev s_word : Stmt := top 15
abbrev s_read : Stmt := top 16
abbrev s_differ : Stmt := top 17
abbrev s_pair : Stmt := top 18
abbrev s_law : Stmt := top 19
theorem sc_Truth_init : FnScope ["self", "rank"] ["self", "rank"] (defScope s_Truth_init) := ⟨rfl, rfl, rfl, by decide +kernel, rfl, by decide +kernel, by decide +kernel⟩
theorem sc_Truth_of : FnScope ["value"] ["value"] (defScope s_Truth_of) := ⟨rfl, rfl, rfl, by decide +kernel, rfl, by decide +kernel, by decide +kernel⟩
theorem sc_Truth_from_word : FnScope ["word"] ["word"] (defScope s_Truth_from_word) := ⟨rfl, rfl, rfl, by decide +kernel, rfl, by decide +kernel, by decide +kernel⟩
theorem sc_Truth_value : FnScope ["self"] ["self"] (defScope s_Truth_value) := ⟨rfl, rfl, rfl, by decide +kernel, rfl, by decide +kernel, by decide +kernel⟩
theorem sc_Truth_word : FnScope ["self"] ["self"] (defScope s_Truth_word) := ⟨rfl, rfl, rfl, by decide +kernel, rfl, by decide +kernel, by decide +kernel⟩
theorem sc_Truth_and : FnScope ["self", "other"] ["self", "other"] (defScope s_Truth_and) := ⟨rfl, rfl, rfl, by decide +kernel, rfl, by decide +kernel, by decide +kernel⟩
theorem sc_Truth_or : FnScope ["self", "other"] ["self", "other"] (defScope s_Truth_or) := ⟨rfl, rfl, rfl, by decide +kernel, rfl, by decide +kernel, by decide +kernel⟩
theorem sc_Truth_xor : FnScope ["self", "other"] ["self", "other"] (defScope s_Truth_xor) := ⟨rfl, rfl, rfl, by decide +kernel, rfl, by decide +kernel, by decide +kernel⟩
theorem sc_Truth_invert : FnScope ["self"] ["self"] (defScope s_Truth_invert) := ⟨rfl, rfl, rfl, by decide +kernel, rfl, by decide +kernel, by decide +kernel⟩
theorem sc_Truth_eq : FnScope ["self", "other"] ["self", "other"] (defScope s_Truth_eq) := ⟨rfl, rfl, rfl, by decide +kernel, rfl, by decide +kernel, by decide +kernel⟩
theorem sc_Truth_ne : FnScope ["self", "other"] ["self", "other"] (defScope s_Truth_ne) := ⟨rfl, rfl, rfl, by decide +kernel, rfl, by decide +kernel, by decide +kernel⟩
theorem sc_Truth_lt : FnScope ["self", "other"] ["self", "other"] (defScope s_Truth_lt) := ⟨rfl, rfl, rfl, by decide +kernel, rfl, by decide +kernel, by decide +kernel⟩
theorem sc_Truth_le : FnScope ["self", "other"] ["self", "other"] (defScope s_Truth_le) := ⟨rfl, rfl, rfl, by decide +kernel, rfl, by decide +kernel, by decide +kernel⟩
theorem sc_Truth_bool : FnScope ["self"] ["self"] (defScope s_Truth_bool) := ⟨rfl, rfl, rfl, by decide +kernel, rfl, by decide +kernel, by decide +kernel⟩
theorem sc_box : FnScope ["_law_script"] ["_law_script"] (defScope s_box) := ⟨rfl, rfl, rfl, by decide +kernel, rfl, by decide +kernel, by decide +kernel⟩
theorem sc_draw : FnScope ["_law_box_here", "_law_size", "_law_drawn", "_law_mixed"] ["_law_box_here", "_law_size"] (defScope s_draw) := ⟨rfl, rfl, rfl, by decide +kernel, rfl, by decide +kernel, by decide +kernel⟩
theorem sc_pick : FnScope ["_law_box_here", "_law_menu"] ["_law_box_here", "_law_menu"] (defScope s_pick) := ⟨rfl, rfl, rfl, by decide +kernel, rfl, by decide +kernel, by decide +kernel⟩
theorem sc_alike : FnScope ["_law_actual", "_law_due", "_law_k"] ["_law_actual", "_law_due"] (defScope s_alike) := ⟨rfl, rfl, rfl, by decide +kernel, rfl, by decide +kernel, by decide +kernel⟩
theorem sc_made : FnScope ["_law_rank", "_law_way"] ["_law_rank", "_law_way"] (defScope s_made) := ⟨rfl, rfl, rfl, by decide +kernel, rfl, by decide +kernel, by decide +kernel⟩
theorem sc_is_rank : FnScope ["_law_actual", "_law_rank", "_law_told"] ["_law_actual", "_law_rank"] (defScope s_is_rank) := ⟨rfl, rfl, rfl, by decide +kernel, rfl, by decide +kernel, by decide +kernel⟩
theorem sc_word : FnScope ["_law_box_here", "_law_letters", "_law_word_here", "_law_kind", "_law_sign", "_law_at", "_law_other", "_law_k"] ["_law_box_here"] (defScope s_word) := ⟨rfl, rfl, rfl, by decide +kernel, rfl, by decide +kernel, by decide +kernel⟩
theorem sc_read : FnScope ["_law_word_here", "_law_menu", "_law_made_here", "bad"] ["_law_word_here"] (defScope s_read) := ⟨rfl, rfl, rfl, by decide +kernel, rfl, by decide +kernel, by decide +kernel⟩
theorem sc_differ : FnScope ["_law_first", "_law_second"] ["_law_first", "_law_second"] (defScope s_differ) := ⟨rfl, rfl, rfl, by decide +kernel, rfl, by decide +kernel, by decide +kernel⟩
theorem sc_pair : FnScope ["_law_one", "_law_two", "_law_first", "_law_second", "_law_told"] ["_law_one", "_law_two", "_law_first", "_law_second"] (defScope s_pair) := ⟨rfl, rfl, rfl, by decide +kernel, rfl, by decide +kernel, by decide +kernel⟩
theorem sc_law : FnScope ["_law_script", "_law_box_here", "_law_ranks", "_law_made_here", "_law_k", "_law_i", "_law_j", "_law_mixed", "_law_due"] ["_law_script"] (defScope s_law) := ⟨rfl, rfl, rfl, by decide +kernel, rfl, by decide +kernel, by decide +kernel⟩
/-! ### the facts -/
def d_Truth_init : He5.DefA := ⟨fun K => Hk.mt K "Truth" "__init__", "__init__", "Truth.__init__", defArgs s_Truth_init, defBody s_Truth_init, defScope s_Truth_init, [], []⟩
def d_Truth_of : He5.DefA := ⟨fun K => Hk.sg K "Truth" "of", "of", "Truth.of", defArgs s_Truth_of, defBody s_Truth_of, defScope s_Truth_of, [], []⟩
def d_Truth_from_word : He5.DefA := ⟨fun K => Hk.sg K "Truth" "from_word", "from_word", "Truth.from_word", defArgs s_Truth_from_word, defBody s_Truth_from_word, defScope s_Truth_from_word, [], []⟩
def d_Truth_value : He5.DefA := ⟨fun K => Hk.pg K "Truth" "value", "value", "Truth.value", defArgs s_Truth_value, defBody s_Truth_value, defScope s_Truth_value, [], []⟩
def d_Truth_word : He5.DefA := ⟨fun K => Hk.pg K "Truth" "word", "word", "Truth.word", defArgs s_Truth_word, defBody s_Truth_word, defScope s_Truth_word, [], []⟩
def d_Truth_and : He5.DefA := ⟨fun K => Hk.mt K "Truth" "__and__", "__and__", "Truth.__and__", defArgs s_Truth_and, defBody s_Truth_and, defScope s_Truth_and, [], []⟩
def d_Truth_or : He5.DefA := ⟨fun K => Hk.mt K "Truth" "__or__", "__or__", "Truth.__or__", defArgs s_Truth_or, defBody s_Truth_or, defScope s_Truth_or, [], []⟩
def d_Truth_xor : He5.DefA := ⟨fun K => Hk.mt K "Truth" "__xor__", "__xor__", "Truth.__xor__", defArgs s_Truth_xor, defBody s_Truth_xor, defScope s_Truth_xor, [], []⟩
def d_Truth_invert : He5.DefA := ⟨fun K => Hk.mt K "Truth" "__invert__", "__invert__", "Truth.__invert__", defArgs s_Truth_invert, defBody s_Truth_invert, defScope s_Truth_invert, [], []⟩
def d_Truth_eq : He5.DefA := ⟨fun K => Hk.mt K "Truth" "__eq__", "__eq__", "Truth.__eq__", defArgs s_Truth_eq, defBody s_Truth_eq, defScope s_Truth_eq, [], []⟩
def d_Truth_ne : He5.DefA := ⟨fun K => Hk.mt K "Truth" "__ne__", "__ne__", "Truth.__ne__", defArgs s_Truth_ne, defBody s_Truth_ne, defScope s_Truth_ne, [], []⟩
def d_Truth_lt : He5.DefA := ⟨fun K => Hk.mt K "Truth" "__lt__", "__lt__", "Truth.__lt__", defArgs s_Truth_lt, defBody s_Truth_lt, defScope s_Truth_lt, [], []⟩
def d_Truth_le : He5.DefA := ⟨fun K => Hk.mt K "Truth" "__le__", "__le__", "Truth.__le__", defArgs s_Truth_le, defBody s_Truth_le, defScope s_Truth_le, [], []⟩
def d_Truth_bool : He5.DefA := ⟨fun K => Hk.mt K "Truth" "__bool__", "__bool__", "Truth.__bool__", defArgs s_Truth_bool, defBody s_Truth_bool, defScope s_Truth_bool, [], []⟩
def d_box : He5.DefA := ⟨fun K => ga K "_law_box", "_law_box", "_law_box", defArgs s_box, defBody s_box, defScope s_box, [], []⟩
def d_draw : He5.DefA := ⟨fun K => ga K "_law_draw", "_law_draw", "_law_draw", defArgs s_draw, defBody s_draw, defScope s_draw, [], []⟩
def d_pick : He5.DefA := ⟨fun K => ga K "_law_pick", "_law_pick", "_law_pick", defArgs s_pick, defBody s_pick, defScope s_pick, [], []⟩
def d_alike : He5.DefA := ⟨fun K => ga K "_law_alike", "_law_alike", "_law_alike", defArgs s_alike, defBody s_alike, defScope s_alike, [], []⟩
def d_made : He5.DefA := ⟨fun K => ga K "_law_made", "_law_made", "_law_made", defArgs s_made, defBody s_made, defScope s_made, [], []⟩
def d_is_rank : He5.DefA := ⟨fun K => ga K "_law_is_rank", "_law_is_rank", "_law_is_rank", defArgs s_is_rank, defBody s_is_rank, defScope s_is_rank, [], []⟩
def d_word : He5.DefA := ⟨fun K => ga K "_law_word", "_law_word", "_law_word", defArgs s_word, defBody s_word, defScope s_word, [], []⟩
def d_read : He5.DefA := ⟨fun K => ga K "_law_read", "_law_read", "_law_read", defArgs s_read, defBody s_read, defScope s_read, [], []⟩
def d_differ : He5.DefA := ⟨fun K => ga K "_law_differ", "_law_differ", "_law_differ", defArgs s_differ, defBody s_differ, defScope s_differ, [], []⟩
def d_pair : He5.DefA := ⟨fun K => ga K "_law_pair", "_law_pair", "_law_pair", defArgs s_pair, defBody s_pair, defScope s_pair, [], []⟩
def d_law : He5.DefA := ⟨fun K => ga K "law", "law", "law", defArgs s_law, defBody s_law, defScope s_law, [], []⟩
def fn : List He5.DefA := [d_Truth_init, d_Truth_of, d_Truth_from_word, d_Truth_value, d_Truth_word, d_Truth_and, d_Truth_or, d_Truth_xor, d_Truth_invert, d_Truth_eq, d_Truth_ne, d_Truth_lt, d_Truth_le, d_Truth_bool, d_box, d_draw, d_pick, d_alike, d_made, d_is_rank, d_word, d_read, d_differ, d_pair, d_law]
def exl : List (PySem.W.Frag → Bool) := [
  fun K => (He.Fa.free "isinstance").ok K,
  fun K => (He.Fa.free "NotImplemented").ok K,
  fun K => (He.Fa.free "bool").ok K,
  fun K => (He.Fa.free "list").ok K,
  fun K => (He.Fa.free "len").ok K,
  fun K => (He.Fa.free "abs").ok K,
  fun K => (He.Fa.free "int").ok K,
  fun K => (He.Fa.free "str").ok K,
  fun K => (He.Fa.free "tuple").ok K,
  fun K => (He.Fa.free "range").ok K,
  fun K => (He.Fa.free "min").ok K,
  fun K => (He.Fa.free "max").ok K,
  fun K => (He.Fa.glo "BookError").ok K,
  fun K => (He.Fa.glo "InvalidCondition").ok K,
  fun K => (He.Fa.glo "Refusal").ok K,
  fun K => (He.Fa.glo "WORDS").ok K,
  fun K => Hk.tupO K "WORDS",
  fun K => He.tupB K "WORDS" [.str "false", .str "unknown", .str "true"],
  fun K => (He.Fa.glo "MEANINGS").ok K,
  fun K => Hk.tupO K "MEANINGS",
  fun K => He.tupB K "MEANINGS" [.bl false, .non, .bl true],
  fun K => (He.Fa.glo "Truth").ok K,
  fun K => (He.Fa.glo "_law_box").ok K,
  fun K => (He.Fa.glo "_law_draw").ok K,
  fun K => (He.Fa.glo "_law_pick").ok K,
  fun K => (He.Fa.glo "_law_alike").ok K,
  fun K => (He.Fa.glo "_law_made").ok K,
  fun K => (He.Fa.glo "_law_is_rank").ok K,
  fun K => (He.Fa.glo "_law_word").ok K,
  fun K => (He.Fa.glo "_law_read").ok K,
  fun K => (He.Fa.glo "_law_differ").ok K,
  fun K => (He.Fa.glo "_law_pair").ok K,
  fun K => (He.Fa.glo "law").ok K,
  fun K => Hk.excB K "BookError" [.type "ValueError", .type "Exception", .type "BaseException", .type "object"],
  fun K => Hk.excCB K "BookError",
  fun K => Hk.kitB K "BookError" "BookError" true,
  fun K => (He.Fa.exm "BookError" "BookError" true).ok K,
  fun K => Hk.kitB K "BookError" "InvalidCondition" false,
  fun K => (He.Fa.exm "BookError" "InvalidCondition" false).ok K,
  fun K => Hk.kitB K "BookError" "Refusal" false,
  fun K => (He.Fa.exm "BookError" "Refusal" false).ok K,
  fun K => Hk.excB K "InvalidCondition" [.type "ValueError", .type "Exception", .type "BaseException", .type "object"],
  fun K => Hk.excCB K "InvalidCondition",
  fun K => Hk.kitB K "InvalidCondition" "BookError" true,
  fun K => (He.Fa.exm "InvalidCondition" "BookError" true).ok K,
  fun K => Hk.kitB K "InvalidCondition" "InvalidCondition" true,
  fun K => (He.Fa.exm "InvalidCondition" "InvalidCondition" true).ok K,
  fun K => Hk.kitB K "InvalidCondition" "Refusal" false,
  fun K => (He.Fa.exm "InvalidCondition" "Refusal" false).ok K,
  fun K => Hk.excB K "Refusal" [.type "ValueError", .type "Exception", .type "BaseException", .type "object"],
  fun K => Hk.excCB K "Refusal",
  fun K => Hk.kitB K "Refusal" "BookError" true,
  fun K => (He.Fa.exm "Refusal" "BookError" true).ok K,
  fun K => Hk.kitB K "Refusal" "InvalidCondition" false,
  fun K => (He.Fa.exm "Refusal" "InvalidCondition" false).ok K,
  fun K => Hk.kitB K "Refusal" "Refusal" true,
  fun K => (He.Fa.exm "Refusal" "Refusal" true).ok K,
  fun K => (He.Fa.cls "Truth").ok K,
  fun K => Hk.isiB K "Truth",
  fun K => Hk.kitB K "Truth" "Truth" true,
  fun K => (He.Fa.mkr "Truth").ok K,
  fun K => (He.Fa.noat "Truth" "rank").ok K,
  fun K => Hk.readB K "Truth",
  fun K => Hk.selfB K "Truth",
  fun K => Hk.statB K "Truth" "of",
  fun K => Hk.statB K "Truth" "from_word",
  fun K => Hk.propB K "Truth" "value",
  fun K => Hk.propB K "Truth" "word",
  fun K => (He.Fa.meth "Truth" "__and__").ok K,
  fun K => (He.Fa.meth "Truth" "__or__").ok K,
  fun K => (He.Fa.meth "Truth" "__xor__").ok K,
  fun K => (He.Fa.meth "Truth" "__invert__").ok K,
  fun K => (He.Fa.meth "Truth" "__eq__").ok K,
  fun K => (He.Fa.meth "Truth" "__ne__").ok K,
  fun K => (He.Fa.meth "Truth" "__lt__").ok K,
  fun K => (He.Fa.meth "Truth" "__le__").ok K,
  fun K => (He.Fa.meth "Truth" "__bool__").ok K,
  fun K => Hk.cvalB K "Truth" "COUNT" (.int 3)]
def ex (K : PySem.W.Frag) : Bool := exl.all fun f => f K
structure Txt (K : PySem.W.Frag) (mg : Str → Option Value) : Prop where
  says : Hk.SaysE ex fn K
  ns : Hk.NsAll K mg
section
variable {P : Program} {w : World} {K : PySem.W.Frag} {mg : Str → Option Value} {base : Heap}
theorem Txt.e (T : Txt K mg) (i : Nat) {f : PySem.W.Frag → Bool} (h : exl[i]? = some f) : f K = true := List.all_eq_true.mp (show (exl.all fun f => f K) = true from T.says.more) f (List.mem_of_getElem? h)
theorem Txt.d (T : Txt K mg) (i : Nat) {d : He5.DefA} (h : fn[i]? = some d) : ∃ fd, FunD K d.name d.qual d.params d.body d.scope (d.dvs K) (d.kws K) (d.at_ K) fd := T.says.def_ i h
theorem Txt.z_isinstance (T : Txt K mg) : mg "isinstance" = none := Hk.free_ok T.ns (T.e 0 (f := fun K => (He.Fa.free "isinstance").ok K) rfl)
theorem Txt.z_NotImplemented (T : Txt K mg) : mg "NotImplemented" = none := Hk.free_ok T.ns (T.e 1 (f := fun K => (He.Fa.free "NotImplemented").ok K) rfl)
theorem Txt.z_bool (T : Txt K mg) : mg "bool" = none := Hk.free_ok T.ns (T.e 2 (f := fun K => (He.Fa.free "bool").ok K) rfl)
theorem Txt.z_list (T : Txt K mg) : mg "list" = none := Hk.free_ok T.ns (T.e 3 (f := fun K => (He.Fa.free "list").ok K) rfl)
theorem Txt.z_len (T : Txt K mg) : mg "len" = none := Hk.free_ok T.ns (T.e 4 (f := fun K => (He.Fa.free "len").ok K) rfl)
theorem Txt.z_abs (T : Txt K mg) : mg "abs" = none := Hk.free_ok T.ns (T.e 5 (f := fun K => (He.Fa.free "abs").ok K) rfl)
theorem Txt.z_int (T : Txt K mg) : mg "int" = none := Hk.free_ok T.ns (T.e 6 (f := fun K => (He.Fa.free "int").ok K) rfl)
theorem Txt.z_str (T : Txt K mg) : mg "str" = none := Hk.free_ok T.ns (T.e 7 (f := fun K => (He.Fa.free "str").ok K) rfl)
theorem Txt.z_tuple (T : Txt K mg) : mg "tuple" = none := Hk.free_ok T.ns (T.e 8 (f := fun K => (He.Fa.free "tuple").ok K) rfl)
theorem Txt.z_range (T : Txt K mg) : mg "range" = none := Hk.free_ok T.ns (T.e 9 (f := fun K => (He.Fa.free "range").ok K) rfl)
theorem Txt.z_min (T : Txt K mg) : mg "min" = none := Hk.free_ok T.ns (T.e 10 (f := fun K => (He.Fa.free "min").ok K) rfl)
theorem Txt.z_max (T : Txt K mg) : mg "max" = none := Hk.free_ok T.ns (T.e 11 (f := fun K => (He.Fa.free "max").ok K) rfl)
theorem Txt.g_BookError (T : Txt K mg) : mg "BookError" = some (.ref (ga K "BookError")) := Hk.glo_ok T.ns (T.e 12 (f := fun K => (He.Fa.glo "BookError").ok K) rfl)
theorem Txt.g_InvalidCondition (T : Txt K mg) : mg "InvalidCondition" = some (.ref (ga K "InvalidCondition")) := Hk.glo_ok T.ns (T.e 13 (f := fun K => (He.Fa.glo "InvalidCondition").ok K) rfl)
theorem Txt.g_Refusal (T : Txt K mg) : mg "Refusal" = some (.ref (ga K "Refusal")) := Hk.glo_ok T.ns (T.e 14 (f := fun K => (He.Fa.glo "Refusal").ok K) rfl)
theorem Txt.g_WORDS (T : Txt K mg) : mg "WORDS" = some (.ref (ga K "WORDS")) := Hk.glo_ok T.ns (T.e 15 (f := fun K => (He.Fa.glo "WORDS").ok K) rfl)
theorem Txt.o_WORDS (T : Txt K mg) : ∀ H, tyV K "tuple" (.ref (ga K "WORDS")) H := Hk.tupO_ok (T.e 16 (f := fun K => Hk.tupO K "WORDS") rfl)
theorem Txt.t_WORDS (T : Txt K mg) : ∀ H, SqT K H (ga K "WORDS") [.str "false", .str "unknown", .str "true"] := fun H => He.tupB_ok (T.e 17 (f := fun K => He.tupB K "WORDS" [.str "false", .str "unknown", .str "true"]) rfl) H
theorem Txt.g_MEANINGS (T : Txt K mg) : mg "MEANINGS" = some (.ref (ga K "MEANINGS")) := Hk.glo_ok T.ns (T.e 18 (f := fun K => (He.Fa.glo "MEANINGS").ok K) rfl)
theorem Txt.o_MEANINGS (T : Txt K mg) : ∀ H, tyV K "tuple" (.ref (ga K "MEANINGS")) H := Hk.tupO_ok (T.e 19 (f := fun K => Hk.tupO K "MEANINGS") rfl)
theorem Txt.t_MEANINGS (T : Txt K mg) : ∀ H, SqT K H (ga K "MEANINGS") [.bl false, .non, .bl true] := fun H => He.tupB_ok (T.e 20 (f := fun K => He.tupB K "MEANINGS" [.bl false, .non, .bl true]) rfl) H
theorem Txt.g_Truth (T : Txt K mg) : mg "Truth" = some (.ref (ga K "Truth")) := Hk.glo_ok T.ns (T.e 21 (f := fun K => (He.Fa.glo "Truth").ok K) rfl)
theorem Txt.g__law_box (T : Txt K mg) : mg "_law_box" = some (.ref (ga K "_law_box")) := Hk.glo_ok T.ns (T.e 22 (f := fun K => (He.Fa.glo "_law_box").ok K) rfl)
theorem Txt.g__law_draw (T : Txt K mg) : mg "_law_draw" = some (.ref (ga K "_law_draw")) := Hk.glo_ok T.ns (T.e 23 (f := fun K => (He.Fa.glo "_law_draw").ok K) rfl)
theorem Txt.g__law_pick (T : Txt K mg) : mg "_law_pick" = some (.ref (ga K "_law_pick")) := Hk.glo_ok T.ns (T.e 24 (f := fun K => (He.Fa.glo "_law_pick").ok K) rfl)
theorem Txt.g__law_alike (T : Txt K mg) : mg "_law_alike" = some (.ref (ga K "_law_alike")) := Hk.glo_ok T.ns (T.e 25 (f := fun K => (He.Fa.glo "_law_alike").ok K) rfl)
theorem Txt.g__law_made (T : Txt K mg) : mg "_law_made" = some (.ref (ga K "_law_made")) := Hk.glo_ok T.ns (T.e 26 (f := fun K => (He.Fa.glo "_law_made").ok K) rfl)
theorem Txt.g__law_is_rank (T : Txt K mg) : mg "_law_is_rank" = some (.ref (ga K "_law_is_rank")) := Hk.glo_ok T.ns (T.e 27 (f := fun K => (He.Fa.glo "_law_is_rank").ok K) rfl)
theorem Txt.g__law_word (T : Txt K mg) : mg "_law_word" = some (.ref (ga K "_law_word")) := Hk.glo_ok T.ns (T.e 28 (f := fun K => (He.Fa.glo "_law_word").ok K) rfl)
theorem Txt.g__law_read (T : Txt K mg) : mg "_law_read" = some (.ref (ga K "_law_read")) := Hk.glo_ok T.ns (T.e 29 (f := fun K => (He.Fa.glo "_law_read").ok K) rfl)
theorem Txt.g__law_differ (T : Txt K mg) : mg "_law_differ" = some (.ref (ga K "_law_differ")) := Hk.glo_ok T.ns (T.e 30 (f := fun K => (He.Fa.glo "_law_differ").ok K) rfl)
theorem Txt.g__law_pair (T : Txt K mg) : mg "_law_pair" = some (.ref (ga K "_law_pair")) := Hk.glo_ok T.ns (T.e 31 (f := fun K => (He.Fa.glo "_law_pair").ok K) rfl)
theorem Txt.g_law (T : Txt K mg) : mg "law" = some (.ref (ga K "law")) := Hk.glo_ok T.ns (T.e 32 (f := fun K => (He.Fa.glo "law").ok K) rfl)
theorem Txt.x_BookError (T : Txt K mg) : Hk.ExcF K "BookError" [.type "ValueError", .type "Exception", .type "BaseException", .type "object"] := Hk.exc_ok (T.e 33 (f := fun K => Hk.excB K "BookError" [.type "ValueError", .type "Exception", .type "BaseException", .type "object"]) rfl)
theorem Txt.ec_BookError (T : Txt K mg) : ExcC K (ga K "BookError") := Hk.excC_ok (T.e 34 (f := fun K => Hk.excCB K "BookError") rfl)
theorem Txt.kt_BookError_BookError (T : Txt K mg) : PySem.W.kitOne K (.ref (ga K "BookError")) (.ref (ga K "BookError")) = some true := of_decide_eq_true (T.e 35 (f := fun K => Hk.kitB K "BookError" "BookError" true) rfl)
theorem Txt.k_BookError_BookError (T : Txt K mg) : PySem.W.exmOne K (.ref (ga K "BookError")) (.ref (ga K "BookError")) = some true := He.exm_ok (T.e 36 (f := fun K => (He.Fa.exm "BookError" "BookError" true).ok K) rfl)
theorem Txt.kt_BookError_InvalidCondition (T : Txt K mg) : PySem.W.kitOne K (.ref (ga K "BookError")) (.ref (ga K "InvalidCondition")) = some false := of_decide_eq_true (T.e 37 (f := fun K => Hk.kitB K "BookError" "InvalidCondition" false) rfl)
theorem Txt.k_BookError_InvalidCondition (T : Txt K mg) : PySem.W.exmOne K (.ref (ga K "BookError")) (.ref (ga K "InvalidCondition")) = some false := He.exm_ok (T.e 38 (f := fun K => (He.Fa.exm "BookError" "InvalidCondition" false).ok K) rfl)
theorem Txt.kt_BookError_Refusal (T : Txt K mg) : PySem.W.kitOne K (.ref (ga K "BookError")) (.ref (ga K "Refusal")) = some false := of_decide_eq_true (T.e 39 (f := fun K => Hk.kitB K "BookError" "Refusal" false) rfl)
theorem Txt.k_BookError_Refusal (T : Txt K mg) : PySem.W.exmOne K (.ref (ga K "BookError")) (.ref (ga K "Refusal")) = some false := He.exm_ok (T.e 40 (f := fun K => (He.Fa.exm "BookError" "Refusal" false).ok K) rfl)
theorem Txt.x_InvalidCondition (T : Txt K mg) : Hk.ExcF K "InvalidCondition" [.type "ValueError", .type "Exception", .type "BaseException", .type "object"] := Hk.exc_ok (T.e 41 (f := fun K => Hk.excB K "InvalidCondition" [.type "ValueError", .type "Exception", .type "BaseException", .type "object"]) rfl)
theorem Txt.ec_InvalidCondition (T : Txt K mg) : ExcC K (ga K "InvalidCondition") := Hk.excC_ok (T.e 42 (f := fun K => Hk.excCB K "InvalidCondition") rfl)
theorem Txt.kt_InvalidCondition_BookError (T : Txt K mg) : PySem.W.kitOne K (.ref (ga K "InvalidCondition")) (.ref (ga K "BookError")) = some true := of_decide_eq_true (T.e 43 (f := fun K => Hk.kitB K "InvalidCondition" "BookError" true) rfl)
theorem Txt.k_InvalidCondition_BookError (T : Txt K mg) : PySem.W.exmOne K (.ref (ga K "InvalidCondition")) (.ref (ga K "BookError")) = some true := He.exm_ok (T.e 44 (f := fun K => (He.Fa.exm "InvalidCondition" "BookError" true).ok K) rfl)
theorem Txt.kt_InvalidCondition_InvalidCondition (T : Txt K mg) : PySem.W.kitOne K (.ref (ga K "InvalidCondition")) (.ref (ga K "InvalidCondition")) = some true := of_decide_eq_true (T.e 45 (f := fun K => Hk.kitB K "InvalidCondition" "InvalidCondition" true) rfl)
theorem Txt.k_InvalidCondition_InvalidCondition (T : Txt K mg) : PySem.W.exmOne K (.ref (ga K "InvalidCondition")) (.ref (ga K "InvalidCondition")) = some true := He.exm_ok (T.e 46 (f := fun K => (He.Fa.exm "InvalidCondition" "InvalidCondition" true).ok K) rfl)
theorem Txt.kt_InvalidCondition_Refusal (T : Txt K mg) : PySem.W.kitOne K (.ref (ga K "InvalidCondition")) (.ref (ga K "Refusal")) = some false := of_decide_eq_true (T.e 47 (f := fun K => Hk.kitB K "InvalidCondition" "Refusal" false) rfl)
theorem Txt.k_InvalidCondition_Refusal (T : Txt K mg) : PySem.W.exmOne K (.ref (ga K "InvalidCondition")) (.ref (ga K "Refusal")) = some false := He.exm_ok (T.e 48 (f := fun K => (He.Fa.exm "InvalidCondition" "Refusal" false).ok K) rfl)
theorem Txt.x_Refusal (T : Txt K mg) : Hk.ExcF K "Refusal" [.type "ValueError", .type "Exception", .type "BaseException", .type "object"] := Hk.exc_ok (T.e 49 (f := fun K => Hk.excB K "Refusal" [.type "ValueError", .type "Exception", .type "BaseException", .type "object"]) rfl)
theorem Txt.ec_Refusal (T : Txt K mg) : ExcC K (ga K "Refusal") := Hk.excC_ok (T.e 50 (f := fun K => Hk.excCB K "Refusal") rfl)
theorem Txt.kt_Refusal_BookError (T : Txt K mg) : PySem.W.kitOne K (.ref (ga K "Refusal")) (.ref (ga K "BookError")) = some true := of_decide_eq_true (T.e 51 (f := fun K => Hk.kitB K "Refusal" "BookError" true) rfl)
theorem Txt.k_Refusal_BookError (T : Txt K mg) : PySem.W.exmOne K (.ref (ga K "Refusal")) (.ref (ga K "BookError")) = some true := He.exm_ok (T.e 52 (f := fun K => (He.Fa.exm "Refusal" "BookError" true).ok K) rfl)
theorem Txt.kt_Refusal_InvalidCondition (T : Txt K mg) : PySem.W.kitOne K (.ref (ga K "Refusal")) (.ref (ga K "InvalidCondition")) = some false := of_decide_eq_true (T.e 53 (f := fun K => Hk.kitB K "Refusal" "InvalidCondition" false) rfl)
theorem Txt.k_Refusal_InvalidCondition (T : Txt K mg) : PySem.W.exmOne K (.ref (ga K "Refusal")) (.ref (ga K "InvalidCondition")) = some false := He.exm_ok (T.e 54 (f := fun K => (He.Fa.exm "Refusal" "InvalidCondition" false).ok K) rfl)
theorem Txt.kt_Refusal_Refusal (T : Txt K mg) : PySem.W.kitOne K (.ref (ga K "Refusal")) (.ref (ga K "Refusal")) = some true := of_decide_eq_true (T.e 55 (f := fun K => Hk.kitB K "Refusal" "Refusal" true) rfl)
theorem Txt.k_Refusal_Refusal (T : Txt K mg) : PySem.W.exmOne K (.ref (ga K "Refusal")) (.ref (ga K "Refusal")) = some true := He.exm_ok (T.e 56 (f := fun K => (He.Fa.exm "Refusal" "Refusal" true).ok K) rfl)
theorem Txt.cl_Truth (T : Txt K mg) : Cls K (ga K "Truth") := He.cls_ok (T.e 57 (f := fun K => (He.Fa.cls "Truth").ok K) rfl)
theorem Txt.i_Truth (T : Txt K mg) : Hk.IsiF K (ga K "Truth") := Hk.isi_ok (T.e 58 (f := fun K => Hk.isiB K "Truth") rfl)
theorem Txt.kt_Truth_Truth (T : Txt K mg) : PySem.W.kitOne K (.ref (ga K "Truth")) (.ref (ga K "Truth")) = some true := of_decide_eq_true (T.e 59 (f := fun K => Hk.kitB K "Truth" "Truth" true) rfl)
theorem Txt.mk_Truth (T : Txt K mg) : Mk K (ga K "Truth") (Hk.mt K "Truth" "__init__") := He.mkr_ok (T.e 60 (f := fun K => (He.Fa.mkr "Truth").ok K) rfl)
theorem Txt.n_Truth_rank (T : Txt K mg) : NoAttr K (ga K "Truth") "rank" := He.noat_ok (T.e 61 (f := fun K => (He.Fa.noat "Truth" "rank").ok K) rfl)
theorem Txt.r_Truth (T : Txt K mg) : Hk.readB K "Truth" = true := (T.e 62 (f := fun K => Hk.readB K "Truth") rfl)
theorem Txt.sf_Truth (T : Txt K mg) : PySem.W.selfFirst K (ga K "Truth") = true := (T.e 63 (f := fun K => Hk.selfB K "Truth") rfl)
theorem Txt.st_Truth_of (T : Txt K mg) : Hk.statB K "Truth" "of" = true := (T.e 64 (f := fun K => Hk.statB K "Truth" "of") rfl)
theorem Txt.st_Truth_from_word (T : Txt K mg) : Hk.statB K "Truth" "from_word" = true := (T.e 65 (f := fun K => Hk.statB K "Truth" "from_word") rfl)
theorem Txt.p_Truth_value (T : Txt K mg) : PropOf K (ga K "Truth") "value" (Hk.mt K "Truth" "value") (Hk.pg K "Truth" "value") := Hk.prop_ok (T.e 66 (f := fun K => Hk.propB K "Truth" "value") rfl)
theorem Txt.p_Truth_word (T : Txt K mg) : PropOf K (ga K "Truth") "word" (Hk.mt K "Truth" "word") (Hk.pg K "Truth" "word") := Hk.prop_ok (T.e 67 (f := fun K => Hk.propB K "Truth" "word") rfl)
theorem Txt.m_Truth_and (T : Txt K mg) : Meth K (ga K "Truth") "__and__" (Hk.mt K "Truth" "__and__") := He.meth_ok (T.e 68 (f := fun K => (He.Fa.meth "Truth" "__and__").ok K) rfl)
theorem Txt.m_Truth_or (T : Txt K mg) : Meth K (ga K "Truth") "__or__" (Hk.mt K "Truth" "__or__") := He.meth_ok (T.e 69 (f := fun K => (He.Fa.meth "Truth" "__or__").ok K) rfl)
theorem Txt.m_Truth_xor (T : Txt K mg) : Meth K (ga K "Truth") "__xor__" (Hk.mt K "Truth" "__xor__") := He.meth_ok (T.e 70 (f := fun K => (He.Fa.meth "Truth" "__xor__").ok K) rfl)
theorem Txt.m_Truth_invert (T : Txt K mg) : Meth K (ga K "Truth") "__invert__" (Hk.mt K "Truth" "__invert__") := He.meth_ok (T.e 71 (f := fun K => (He.Fa.meth "Truth" "__invert__").ok K) rfl)
theorem Txt.m_Truth_eq (T : Txt K mg) : Meth K (ga K "Truth") "__eq__" (Hk.mt K "Truth" "__eq__") := He.meth_ok (T.e 72 (f := fun K => (He.Fa.meth "Truth" "__eq__").ok K) rfl)
theorem Txt.m_Truth_ne (T : Txt K mg) : Meth K (ga K "Truth") "__ne__" (Hk.mt K "Truth" "__ne__") := He.meth_ok (T.e 73 (f := fun K => (He.Fa.meth "Truth" "__ne__").ok K) rfl)
theorem Txt.m_Truth_lt (T : Txt K mg) : Meth K (ga K "Truth") "__lt__" (Hk.mt K "Truth" "__lt__") := He.meth_ok (T.e 74 (f := fun K => (He.Fa.meth "Truth" "__lt__").ok K) rfl)
theorem Txt.m_Truth_le (T : Txt K mg) : Meth K (ga K "Truth") "__le__" (Hk.mt K "Truth" "__le__") := He.meth_ok (T.e 75 (f := fun K => (He.Fa.meth "Truth" "__le__").ok K) rfl)
theorem Txt.m_Truth_bool (T : Txt K mg) : Meth K (ga K "Truth") "__bool__" (Hk.mt K "Truth" "__bool__") := He.meth_ok (T.e 76 (f := fun K => (He.Fa.meth "Truth" "__bool__").ok K) rfl)
theorem Txt.v_Truth_COUNT (T : Txt K mg) : ∃ u, ClX.CVal K (ga K "Truth") (.type "type") "COUNT" (.int 3) u := Hk.cval_ok (T.e 77 (f := fun K => Hk.cvalB K "Truth" "COUNT" (.int 3)) rfl)
theorem Txt.f_Truth_init (T : Txt K mg) : ∃ fd, FunD K "__init__" "Truth.__init__" (defArgs s_Truth_init) (defBody s_Truth_init) (defScope s_Truth_init) [] [] (Hk.mt K "Truth" "__init__") fd := T.d 0 (d := d_Truth_init) rfl
theorem Txt.f_Truth_of (T : Txt K mg) : ∃ fd, FunD K "of" "Truth.of" (defArgs s_Truth_of) (defBody s_Truth_of) (defScope s_Truth_of) [] [] (Hk.sg K "Truth" "of") fd := T.d 1 (d := d_Truth_of) rfl
theorem Txt.f_Truth_from_word (T : Txt K mg) : ∃ fd, FunD K "from_word" "Truth.from_word" (defArgs s_Truth_from_word) (defBody s_Truth_from_word) (defScope s_Truth_from_word) [] [] (Hk.sg K "Truth" "from_word") fd := T.d 2 (d := d_Truth_from_word) rfl
theorem Txt.f_Truth_value (T : Txt K mg) : ∃ fd, FunD K "value" "Truth.value" (defArgs s_Truth_value) (defBody s_Truth_value) (defScope s_Truth_value) [] [] (Hk.pg K "Truth" "value") fd := T.d 3 (d := d_Truth_value) rfl
theorem Txt.f_Truth_word (T : Txt K mg) : ∃ fd, FunD K "word" "Truth.word" (defArgs s_Truth_word) (defBody s_Truth_word) (defScope s_Truth_word) [] [] (Hk.pg K "Truth" "word") fd := T.d 4 (d := d_Truth_word) rfl
theorem Txt.f_Truth_and (T : Txt K mg) : ∃ fd, FunD K "__and__" "Truth.__and__" (defArgs s_Truth_and) (defBody s_Truth_and) (defScope s_Truth_and) [] [] (Hk.mt K "Truth" "__and__") fd := T.d 5 (d := d_Truth_and) rfl
theorem Txt.f_Truth_or (T : Txt K mg) : ∃ fd, FunD K "__or__" "Truth.__or__" (defArgs s_Truth_or) (defBody s_Truth_or) (defScope s_Truth_or) [] [] (Hk.mt K "Truth" "__or__") fd := T.d 6 (d := d_Truth_or) rfl
theorem Txt.f_Truth_xor (T : Txt K mg) : ∃ fd, FunD K "__xor__" "Truth.__xor__" (defArgs s_Truth_xor) (defBody s_Truth_xor) (defScope s_Truth_xor) [] [] (Hk.mt K "Truth" "__xor__") fd := T.d 7 (d := d_Truth_xor) rfl
theorem Txt.f_Truth_invert (T : Txt K mg) : ∃ fd, FunD K "__invert__" "Truth.__invert__" (defArgs s_Truth_invert) (defBody s_Truth_invert) (defScope s_Truth_invert) [] [] (Hk.mt K "Truth" "__invert__") fd := T.d 8 (d := d_Truth_invert) rfl
theorem Txt.f_Truth_eq (T : Txt K mg) : ∃ fd, FunD K "__eq__" "Truth.__eq__" (defArgs s_Truth_eq) (defBody s_Truth_eq) (defScope s_Truth_eq) [] [] (Hk.mt K "Truth" "__eq__") fd := T.d 9 (d := d_Truth_eq) rfl
theorem Txt.f_Truth_ne (T : Txt K mg) : ∃ fd, FunD K "__ne__" "Truth.__ne__" (defArgs s_Truth_ne) (defBody s_Truth_ne) (defScope s_Truth_ne) [] [] (Hk.mt K "Truth" "__ne__") fd := T.d 10 (d := d_Truth_ne) rfl
theorem Txt.f_Truth_lt (T : Txt K mg) : ∃ fd, FunD K "__lt__" "Truth.__lt__" (defArgs s_Truth_lt) (defBody s_Truth_lt) (defScope s_Truth_lt) [] [] (Hk.mt K "Truth" "__lt__") fd := T.d 11 (d := d_Truth_lt) rfl
theorem Txt.f_Truth_le (T : Txt K mg) : ∃ fd, FunD K "__le__" "Truth.__le__" (defArgs s_Truth_le) (defBody s_Truth_le) (defScope s_Truth_le) [] [] (Hk.mt K "Truth" "__le__") fd := T.d 12 (d := d_Truth_le) rfl
theorem Txt.f_Truth_bool (T : Txt K mg) : ∃ fd, FunD K "__bool__" "Truth.__bool__" (defArgs s_Truth_bool) (defBody s_Truth_bool) (defScope s_Truth_bool) [] [] (Hk.mt K "Truth" "__bool__") fd := T.d 13 (d := d_Truth_bool) rfl
theorem Txt.f_box (T : Txt K mg) : ∃ fd, FunD K "_law_box" "_law_box" (defArgs s_box) (defBody s_box) (defScope s_box) [] [] (ga K "_law_box") fd := T.d 14 (d := d_box) rfl
theorem Txt.f_draw (T : Txt K mg) : ∃ fd, FunD K "_law_draw" "_law_draw" (defArgs s_draw) (defBody s_draw) (defScope s_draw) [] [] (ga K "_law_draw") fd := T.d 15 (d := d_draw) rfl
theorem Txt.f_pick (T : Txt K mg) : ∃ fd, FunD K "_law_pick" "_law_pick" (defArgs s_pick) (defBody s_pick) (defScope s_pick) [] [] (ga K "_law_pick") fd := T.d 16 (d := d_pick) rfl
theorem Txt.f_alike (T : Txt K mg) : ∃ fd, FunD K "_law_alike" "_law_alike" (defArgs s_alike) (defBody s_alike) (defScope s_alike) [] [] (ga K "_law_alike") fd := T.d 17 (d := d_alike) rfl
theorem Txt.f_made (T : Txt K mg) : ∃ fd, FunD K "_law_made" "_law_made" (defArgs s_made) (defBody s_made) (defScope s_made) [] [] (ga K "_law_made") fd := T.d 18 (d := d_made) rfl
theorem Txt.f_is_rank (T : Txt K mg) : ∃ fd, FunD K "_law_is_rank" "_law_is_rank" (defArgs s_is_rank) (defBody s_is_rank) (defScope s_is_rank) [] [] (ga K "_law_is_rank") fd := T.d 19 (d := d_is_rank) rfl
theorem Txt.f_word (T : Txt K mg) : ∃ fd, FunD K "_law_word" "_law_word" (defArgs s_word) (defBody s_word) (defScope s_word) [] [] (ga K "_law_word") fd := T.d 20 (d := d_word) rfl
theorem Txt.f_read (T : Txt K mg) : ∃ fd, FunD K "_law_read" "_law_read" (defArgs s_read) (defBody s_read) (defScope s_read) [] [] (ga K "_law_read") fd := T.d 21 (d := d_read) rfl
theorem Txt.f_differ (T : Txt K mg) : ∃ fd, FunD K "_law_differ" "_law_differ" (defArgs s_differ) (defBody s_differ) (defScope s_differ) [] [] (ga K "_law_differ") fd := T.d 22 (d := d_differ) rfl
theorem Txt.f_pair (T : Txt K mg) : ∃ fd, FunD K "_law_pair" "_law_pair" (defArgs s_pair) (defBody s_pair) (defScope s_pair) [] [] (ga K "_law_pair") fd := T.d 23 (d := d_pair) rfl
theorem Txt.f_law (T : Txt K mg) : ∃ fd, FunD K "law" "law" (defArgs s_law) (defBody s_law) (defScope s_law) [] [] (ga K "law") fd := T.d 24 (d := d_law) rfl
end
/-! ### the head -/
abbrev R : PySem.W.OpenRow := PySem.W.OpenLaw.row PySem.Challenge.rw_bookstogether_k00_truth_values
abbrev hk : PySem.W.Hook := Hk.hookE 5 ex fn
def ob (s : PySem.W.SharedT) : He.AlD := Hk.obsEG 5 ex fn (HandSHeadRun.getT s)
theorem ob_eq (s : PySem.W.SharedT) : ob s = hk.obs s.abs := Hk.obsEG_eq (HandSHeadRun.getT_eq s)
def loose : List PySem.Str := ["BookError", "InvalidCondition", "Refusal", "WORDS", "MEANINGS", "Truth", "_law_box", "_law_draw", "_law_pick", "_law_alike", "_law_made", "_law_is_rank", "_law_word", "_law_read", "_law_differ", "_law_pair"]
set_option maxHeartbeats 0 in
theorem run (w : World) : HandSHeadRun.RunEq R (PySem.W.view R.prog [19]) hk ob 6000 loose w := by
  intro os
  kernel_rfl
end K00

set_option Elab.async false
set_option linter.all false
set_option maxRecDepth 100000
set_option maxHeartbeats 4000000
/-! ### readings by themselves -/
open PySem PySem.Spec PyProof.Rows L2 in
local macro_rules | `(tactic| k_allIn) => `(tactic| first | (with_reducible assumption) | exact upd_same | (refine Hk.same_upd (by assumption) _ _ ?_; k_allIn) | (refine (upd_ne (by first | assumption | exact Ne.symm (by assumption))).trans ?_; k_allIn))
open PySem PySem.Spec PyProof.Rows L2 in
local macro_rules | `(tactic| k_memK) => `(tactic| first | (with_reducible exact rfl) | (with_reducible assumption) | exact rfl | exact Hk.lk_hd | k_allIn | exact Or.inl (Or.inl (by k_allIn)) | exact ⟨_, rfl⟩ | exact Or.inl ⟨rfl, _, by assumption⟩ | exact Or.inl ⟨rfl, _, Or.inl (Or.inl (by k_allIn))⟩ | exact (fun _ h => h) | exact ClsV.own _ | exact ClsV.ty _ | exact Or.inl ‹_› | exact Or.inr ‹_› | lcg_src | exact Or.inl ⟨by omega, by omega⟩ | exact Or.inr ⟨by omega, by omega⟩ | exact ⟨by omega, by omega⟩ | exact Nat.le_of_lt (small1000 (by simp)) | exact small1000 (by simp) | exact Nat.le_of_lt (small1000 (by omega)) | exact small1000 (by omega) | omega | assumption | decide +kernel)
local macro_rules | `(tactic| lcg_sub) => `(tactic| (refine And.intro ?_ ?_; k_memK))
local macro_rules | `(tactic| k_subL) => `(tactic| (repeat (first | (apply Exists.intro) | lcg_sub | (refine Or.inl ⟨_, rfl, ?_⟩) | (refine Or.inr ⟨_, rfl, ?_⟩))))
namespace K00
open PySem PySem.Spec PyProof.Rows L2
open He (ga ma ba)
/-! ### Truth -/
/-- a truth value of rank r stands at a -/
def TruthAt (K : PySem.W.Frag) (H : Hp) (a : Addr) (r : Int) : Prop := ∃ dx, H a = some (.ins (ga K "Truth") dx [("rank", .int r)])
def R3 (r : Int) : Prop := r = 0 ∨ r = 1 ∨ r = 2
def meaning (r : Int) : V := if r = 0 then .bl false else if r = 1 then .non else .bl true
def wordS (r : Int) : Str := if r = 0 then "false" else if r = 1 then "unknown" else "true"
theorem TruthAt.mono {K : PySem.W.Frag} {H H' : Hp} {a : Addr} {r : Int} (h : TruthAt K H a r) (s : Same H H') : TruthAt K H' a r := let ⟨dx, e⟩ := h; ⟨dx, s _ _ e⟩
/-- a new truth value of rank r is handed back -/
def gives (K : PySem.W.Frag) (r : Int) (H : Hp) (Q : VK) : Prop := ∀ a H', Same H H' → TruthAt K H' a r → Q (.ref a) H'
def sp_Truth_init (K : PySem.W.Frag) : Sp := fun vs H Q _ => ∃ p dx r, vs = [.ref p, .int r] ∧ H p = some (.ins (ga K "Truth") dx []) ∧ Q .non (upd H p (.ins (ga K "Truth") dx [("rank", .int r)]))
def sp_Truth_value (K : PySem.W.Frag) : Sp := fun vs H Q _ => ∃ a r, vs = [.ref a] ∧ TruthAt K H a r ∧ R3 r ∧ Q (meaning r) H
def sp_Truth_word (K : PySem.W.Frag) : Sp := fun vs H Q _ => ∃ a r, vs = [.ref a] ∧ TruthAt K H a r ∧ R3 r ∧ Q (.str (wordS r)) H
def sp_Truth_and (K : PySem.W.Frag) : Sp := fun vs H Q _ => ∃ a b r t, vs = [.ref a, .ref b] ∧ TruthAt K H a r ∧ TruthAt K H b t ∧ ∀ c, TruthAt K H c (if t < r then t else r) → Q (.ref c) H
def sp_Truth_or (K : PySem.W.Frag) : Sp := fun vs H Q _ => ∃ a b r t, vs = [.ref a, .ref b] ∧ TruthAt K H a r ∧ TruthAt K H b t ∧ ∀ c, TruthAt K H c (if t > r then t else r) → Q (.ref c) H
def differ (r t : Int) : Int := if r = 1 ∨ t = 1 then 1 else if r = t then 0 else 2
def sp_Truth_xor (K : PySem.W.Frag) : Sp := fun vs H Q _ => ∃ a b r t, vs = [.ref a, .ref b] ∧ TruthAt K H a r ∧ TruthAt K H b t ∧ R3 r ∧ R3 t ∧ gives K (differ r t) H Q
def sp_Truth_invert (K : PySem.W.Frag) : Sp := fun vs H Q _ => ∃ a r, vs = [.ref a] ∧ TruthAt K H a r ∧ gives K (2 - r) H Q
def sp_Truth_cmp (K : PySem.W.Frag) (f : Int → Int → Bool) : Sp := fun vs H Q _ => ∃ a b r t, vs = [.ref a, .ref b] ∧ TruthAt K H a r ∧ TruthAt K H b t ∧ Q (.bl (f r t)) H
def sp_Truth_bool (K : PySem.W.Frag) : Sp := fun vs H Q _ => ∃ a r, vs = [.ref a] ∧ TruthAt K H a r ∧ Q (.bl (decide (r = 2))) H
def rankOf : V → Option Int
  | .non => some 1
  | .bl b => some (if b then 2 else 0)
  | _ => none
def sp_Truth_of (K : PySem.W.Frag) : Sp := fun vs H Q _ => ∃ v r, vs = [v] ∧ rankOf v = some r ∧ gives K r H Q
section
variable {P : Program} {w : World} {K : PySem.W.Frag} {mg : Str → Option Value} {base : Heap}
theorem mk_truth {r : Int} {H : Hp} {Q : VK} {E : XK} (q : gives K r H Q) : ∀ x dx, H x = none → H dx = none → dx ≠ x → sp_Truth_init K [.ref x, .int r] (upd (upd H dx (.own x)) x (.ins (ga K "Truth") dx [])) (fun v H' => v = .non ∧ Q (.ref x) H') E := by
  intro x dx nx ndx ne
  refine ⟨x, dx, r, rfl, upd_same, rfl, q x _ (fun b o e => ?_) ⟨dx, upd_same⟩⟩
  rw [upd_ne (ne_of_none e nx), upd_ne (ne_of_none e nx), upd_ne (ne_of_none e ndx)]
  exact e
theorem ok_Truth_init (T : Txt K mg) : Hk.AOk P w K mg base CX0 1 (Hk.mt K "Truth" "__init__") ["self", "rank"] (sp_Truth_init K) := by
  refine Hk.mkA T.f_Truth_init (fun _ _ _ _ _ _ us hl => match us, hl with | [_, _], _ => rfl) sc_Truth_init (fun vs H Q E h => ?_) (fun cdv A outer s H vs Q E hr h => ?_)
  · obtain ⟨p, dx, r, rfl, _⟩ := h
    rfl
  · obtain ⟨p, dx, r, rfl, hp, q⟩ := h
    have hc := T.cl_Truth
    have hn := T.n_Truth_rank
    refine ⟨_, (pss_one (ps_fld (pv 0) (pv 1) rfl)), ?_⟩
    k_subL
    exact q
theorem at3 {x y z : V} {r : Int} (h : R3 r) : atI [x, y, z] r = some (if r = 0 then x else if r = 1 then y else z) := by
  rcases h with rfl | rfl | rfl <;> rfl
theorem at3m {r : Int} (h : R3 r) : atI [V.bl false, V.non, V.bl true] r = some (meaning r) := at3 h
theorem at3w {r : Int} (h : R3 r) : atI [V.str "false", V.str "unknown", V.str "true"] r = some (.str (wordS r)) := by
  rcases h with rfl | rfl | rfl <;> rfl
theorem ok_Truth_value (T : Txt K mg) : Hk.AOk P w K mg base CX0 1 (Hk.pg K "Truth" "value") ["self"] (sp_Truth_value K) := by
  refine Hk.mkA T.f_Truth_value (fun _ _ _ _ _ _ us hl => match us, hl with | [_], _ => rfl) sc_Truth_value (fun vs H Q E h => ?_) (fun cdv A outer s H vs Q E hr h => ?_)
  · obtain ⟨a, r, rfl, _⟩ := h
    rfl
  · obtain ⟨a, r, rfl, ⟨dx, ha⟩, h3, q⟩ := h
    have hc := T.cl_Truth
    have hn := T.n_Truth_rank
    have ht := T.t_MEANINGS H
    have hm := at3m h3
    refine ⟨_, (pss_one (ps_ret (pe_ix ix_tup (pe_glob (v := .ref (ga K "MEANINGS")) (by rfl) T.g_MEANINGS rfl) (pe_fld (pv 0) rfl) (fun _ _ => rfl)))), ?_⟩
    k_subL
    exact q
theorem ok_Truth_word (T : Txt K mg) : Hk.AOk P w K mg base CX0 1 (Hk.pg K "Truth" "word") ["self"] (sp_Truth_word K) := by
  refine Hk.mkA T.f_Truth_word (fun _ _ _ _ _ _ us hl => match us, hl with | [_], _ => rfl) sc_Truth_word (fun vs H Q E h => ?_) (fun cdv A outer s H vs Q E hr h => ?_)
  · obtain ⟨a, r, rfl, _⟩ := h
    rfl
  · obtain ⟨a, r, rfl, ⟨dx, ha⟩, h3, q⟩ := h
    have hc := T.cl_Truth
    have hn := T.n_Truth_rank
    have ht := T.t_WORDS H
    have hm := at3w h3
    refine ⟨_, (pss_one (ps_ret (pe_ix ix_tup (pe_glob (v := .ref (ga K "WORDS")) (by rfl) T.g_WORDS rfl) (pe_fld (pv 0) rfl) (fun _ _ => rfl)))), ?_⟩
    k_subL
    exact q
theorem ok_Truth_and (T : Txt K mg) : Hk.AOk P w K mg base CX0 1 (Hk.mt K "Truth" "__and__") ["self", "other"] (sp_Truth_and K) := by
  refine Hk.mkA T.f_Truth_and (fun _ _ _ _ _ _ us hl => match us, hl with | [_, _], _ => rfl) sc_Truth_and (fun vs H Q E h => ?_) (fun cdv A outer s H vs Q E hr h => ?_)
  · obtain ⟨a, b, r, t, rfl, _⟩ := h
    rfl
  · obtain ⟨a, b, r, t, rfl, ha', hb', q⟩ := h
    obtain ⟨⟨dx, ha⟩, ⟨dy, hb⟩⟩ := And.intro (id ha') (id hb')
    have hc := T.cl_Truth
    have hn := T.n_Truth_rank
    refine ⟨_, (pss_one (ps_ret (pe_ifExp (pt_cmpR op_lt (pe_fld (pv 0) rfl) (pe_fld (pv 1) rfl) (nomark _)) (pv 0) (pv 1)))), ?_⟩
    k_subL
    refine ite2 (fun e => ?_) (fun e => ?_)
    all_goals have e' := e; rw [decide_eq_true_eq] at e'
    · k_subL
      refine q a ?_
      rw [if_neg (by omega)]
      exact ha'
    · k_subL
      refine q b ?_
      by_cases e2 : t < r
      · rw [if_pos e2]; exact hb'
      · rw [if_neg e2]
        obtain rfl : r = t := by omega
        exact hb'
theorem ok_Truth_or (T : Txt K mg) : Hk.AOk P w K mg base CX0 1 (Hk.mt K "Truth" "__or__") ["self", "other"] (sp_Truth_or K) := by
  refine Hk.mkA T.f_Truth_or (fun _ _ _ _ _ _ us hl => match us, hl with | [_, _], _ => rfl) sc_Truth_or (fun vs H Q E h => ?_) (fun cdv A outer s H vs Q E hr h => ?_)
  · obtain ⟨a, b, r, t, rfl, _⟩ := h
    rfl
  · obtain ⟨a, b, r, t, rfl, ha', hb', q⟩ := h
    obtain ⟨⟨dx, ha⟩, ⟨dy, hb⟩⟩ := And.intro (id ha') (id hb')
    have hc := T.cl_Truth
    have hn := T.n_Truth_rank
    refine ⟨_, (pss_one (ps_ret (pe_ifExp (pt_cmpR op_gt (pe_fld (pv 0) rfl) (pe_fld (pv 1) rfl) (nomark _)) (pv 0) (pv 1)))), ?_⟩
    k_subL
    refine ite2 (fun e => ?_) (fun e => ?_)
    all_goals have e' := e; rw [decide_eq_true_eq] at e'
    · k_subL
      refine q a ?_
      rw [if_neg (by omega)]
      exact ha'
    · k_subL
      refine q b ?_
      by_cases e2 : t > r
      · rw [if_pos e2]; exact hb'
      · rw [if_neg e2]
        obtain rfl : r = t := by omega
        exact hb'
theorem ok_Truth_of (T : Txt K mg) : Hk.AOk P w K mg base CX0 3 (Hk.sg K "Truth" "of") ["value"] (sp_Truth_of K) := by
  refine Hk.mkA T.f_Truth_of (fun _ _ _ _ _ _ us hl => match us, hl with | [_], _ => rfl) sc_Truth_of (fun vs H Q E h => ?_) (fun cdv A outer s H vs Q E hr h => ?_)
  · obtain ⟨v, r, rfl, _⟩ := h
    rfl
  · obtain ⟨v, r, rfl, hv, q⟩ := h
    refine ⟨_, (pss_cons (ps_if (pt_cmpR op_isN (pv 0) pe_non (nomark _))
        (pss_one (ps_ret (Hk.pe_mk T.mk_Truth (ok_Truth_init T) T.g_Truth (hr.mono (by decide)) pass0 (pa_cons pe_int pa_nil))))
        pss_nil)
      (pss_one (ps_ret (Hk.pe_mk T.mk_Truth (ok_Truth_init T) T.g_Truth (hr.mono (by decide)) pass0 (pa_cons (pe_ifExp (pt_val (pv 0)) pe_int pe_int) pa_nil))))), ?_⟩
    k_subL
    cases v with
    | non =>
      cases hv
      refine iteT ?_
      exact mk_truth q
    | bl b =>
      refine iteF ?_
      k_subL
      cases b with
      | true =>
        cases hv
        refine iteT ?_
        exact mk_truth q
      | false =>
        cases hv
        refine iteF ?_
        exact mk_truth q
    | _ => cases hv
end
end K00

set_option Elab.async false
set_option linter.all false
set_option maxRecDepth 100000
set_option maxHeartbeats 4000000
/-! ### readings by themselves -/
open PySem PySem.Spec PyProof.Rows L2 in
local macro_rules | `(tactic| k_allIn) => `(tactic| first | (with_reducible assumption) | exact upd_same | (refine Hk.same_upd (by assumption) _ _ ?_; k_allIn) | (refine (upd_ne (by first | assumption | exact Ne.symm (by assumption))).trans ?_; k_allIn))
open PySem PySem.Spec PyProof.Rows L2 in
local macro_rules | `(tactic| k_memK) => `(tactic| first | (with_reducible exact rfl) | (with_reducible assumption) | exact rfl | exact Hk.lk_hd | k_allIn | exact Or.inl (Or.inl (by k_allIn)) | exact ⟨_, rfl⟩ | exact Or.inl ⟨rfl, _, by assumption⟩ | exact Or.inl ⟨rfl, _, Or.inl (Or.inl (by k_allIn))⟩ | exact (fun _ h => h) | exact ClsV.own _ | exact ClsV.ty _ | exact Or.inl ‹_› | exact Or.inr ‹_› | lcg_src | exact Or.inl ⟨by omega, by omega⟩ | exact Or.inr ⟨by omega, by omega⟩ | exact ⟨by omega, by omega⟩ | exact Nat.le_of_lt (small1000 (by simp)) | exact small1000 (by simp) | exact Nat.le_of_lt (small1000 (by omega)) | exact small1000 (by omega) | omega | assumption | decide +kernel)
local macro_rules | `(tactic| lcg_sub) => `(tactic| (refine And.intro ?_ ?_; k_memK))
local macro_rules | `(tactic| k_subL) => `(tactic| (repeat (first | (apply Exists.intro) | lcg_sub | (refine Or.inl ⟨_, rfl, ?_⟩) | (refine Or.inr ⟨_, rfl, ?_⟩))))
namespace K00
open PySem PySem.Spec PyProof.Rows L2
open He (ga ma ba)
def sp_Truth_from_word (K : PySem.W.Frag) : Sp := fun vs H Q E => ∃ z, vs = [.str z] ∧ (∀ r, R3 r → z = wordS r → gives K r H Q) ∧ ((∀ r, R3 r → z ≠ wordS r) → E (.ref (ga K "InvalidCondition")) none H)
section
variable {P : Program} {w : World} {K : PySem.W.Frag} {mg : Str → Option Value} {base : Heap}
theorem meaning_non {r : Int} (h : R3 r) : decide (meaning r = V.non) = decide (r = 1) := by
  rcases h with rfl | rfl | rfl <;> rfl
theorem ok_Truth_invert (T : Txt K mg) : Hk.AOk P w K mg base CX0 3 (Hk.mt K "Truth" "__invert__") ["self"] (sp_Truth_invert K) := by
  refine Hk.mkA T.f_Truth_invert (fun _ _ _ _ _ _ us hl => match us, hl with | [_], _ => rfl) sc_Truth_invert (fun vs H Q E h => ?_) (fun cdv A outer s H vs Q E hr h => ?_)
  · obtain ⟨a, r, rfl, _⟩ := h
    rfl
  · obtain ⟨a, r, rfl, ⟨dx, ha⟩, q⟩ := h
    have hc := T.cl_Truth
    have hn := T.n_Truth_rank
    refine ⟨_, (pss_one (ps_ret (Hk.pe_mk T.mk_Truth (ok_Truth_init T) T.g_Truth (hr.mono (by decide)) pass0 (pa_cons (pe_op op_sub pe_int (pe_fld (pv 0) rfl)) pa_nil)))), ?_⟩
    k_subL
    exact mk_truth q
theorem ok_Truth_xor (T : Txt K mg) : Hk.AOk P w K mg base CX0 5 (Hk.mt K "Truth" "__xor__") ["self", "other"] (sp_Truth_xor K) := by
  refine Hk.mkA T.f_Truth_xor (fun _ _ _ _ _ _ us hl => match us, hl with | [_, _], _ => rfl) sc_Truth_xor (fun vs H Q E h => ?_) (fun cdv A outer s H vs Q E hr h => ?_)
  · obtain ⟨a, b, r, t, rfl, _⟩ := h
    rfl
  · obtain ⟨a, b, r, t, rfl, ha', hb', h3, h4, q⟩ := h
    obtain ⟨⟨dx, ha⟩, ⟨dy, hb⟩⟩ := And.intro (id ha') (id hb')
    have hc := T.cl_Truth
    have hn := T.n_Truth_rank
    have m1 := meaning_non h3
    have m2 := meaning_non h4
    refine ⟨_, (pss_cons (ps_if (PW.pt (pw_or (pt_cmpR op_isN (Hk.pe_p (ok_Truth_value T) T.cl_Truth T.p_Truth_value (hr.mono (by decide)) pass0 (pv 0)) pe_non (nomark _)) (pw_or1 (pt_cmpR op_isN (Hk.pe_p (ok_Truth_value T) T.cl_Truth T.p_Truth_value (hr.mono (by decide)) pass0 (pv 1)) pe_non (nomark _)))))
        (pss_one (ps_ret (Hk.pe_mk T.mk_Truth (ok_Truth_init T) T.g_Truth (hr.mono (by decide)) pass0 (pa_cons pe_int pa_nil))))
        pss_nil)
      (pss_one (ps_ret (Hk.pe_s (ok_Truth_of T) T.r_Truth T.st_Truth_of (hr.mono (by decide)) pass0 (pe_glob (v := .ref (ga K "Truth")) (by rfl) T.g_Truth rfl) (pa_cons (pe_cmpR op_ne (pe_fld (pv 0) rfl) (pe_fld (pv 1) rfl) (nomark _)) pa_nil))))), ?_⟩
    k_subL
    rw [m1]
    by_cases e1 : r = 1
    · rw [decide_eq_true e1]
      refine iteT (iteT ?_)
      unfold differ at q
      rw [if_pos (Or.inl e1)] at q
      exact mk_truth q
    · rw [decide_eq_false e1]
      refine iteF ?_
      k_subL
      rw [m2]
      by_cases e2 : t = 1
      · rw [decide_eq_true e2]
        refine iteT ?_
        unfold differ at q
        rw [if_pos (Or.inr e2)] at q
        exact mk_truth q
      · rw [decide_eq_false e2]
        refine iteF ?_
        unfold differ at q
        rw [if_neg (fun z => z.elim e1 e2)] at q
        k_subL
        by_cases e : r = t
        · subst e
          rw [if_pos rfl] at q
          simp only [decide_true, Bool.not_true]
          exact q
        · have e' : ¬ (V.int r = V.int t) := fun z => e (V.int.inj z)
          rw [if_neg e] at q
          simp only [e', decide_false, Bool.not_false]
          exact q
theorem ok_Truth_bool (T : Txt K mg) : Hk.AOk P w K mg base CX0 1 (Hk.mt K "Truth" "__bool__") ["self"] (sp_Truth_bool K) := by
  refine Hk.mkA T.f_Truth_bool (fun _ _ _ _ _ _ us hl => match us, hl with | [_], _ => rfl) sc_Truth_bool (fun vs H Q E h => ?_) (fun cdv A outer s H vs Q E hr h => ?_)
  · obtain ⟨a, r, rfl, _⟩ := h
    rfl
  · obtain ⟨a, r, rfl, ⟨dx, ha⟩, q⟩ := h
    have hc := T.cl_Truth
    have hn := T.n_Truth_rank
    refine ⟨_, (pss_one (ps_ret (pe_callTy call_bool1 (by rfl) T.z_bool (by decide +kernel) (pa_cons (pe_cmpR op_eq (pe_fld (pv 0) rfl) pe_int (nomark _)) pa_nil)))), ?_⟩
    k_subL
    simp only [V.int.injEq]
    exact q
theorem ok_Truth_eq (T : Txt K mg) : Hk.AOk P w K mg base CX0 1 (Hk.mt K "Truth" "__eq__") ["self", "other"] (sp_Truth_cmp K (fun r t => decide (r = t))) := by
  refine Hk.mkA T.f_Truth_eq (fun _ _ _ _ _ _ us hl => match us, hl with | [_, _], _ => rfl) sc_Truth_eq (fun vs H Q E h => ?_) (fun cdv A outer s H vs Q E hr h => ?_)
  · obtain ⟨a, b, r, t, rfl, _⟩ := h
    rfl
  · obtain ⟨a, b, r, t, rfl, ⟨dx, ha⟩, ⟨dy, hb⟩, q⟩ := h
    have hc := T.cl_Truth
    have hn := T.n_Truth_rank
    have hi := T.i_Truth.ty hb
    have hk := T.kt_Truth_Truth
    refine ⟨_, (pss_cons (ps_if (pt_not (pt_val (pe_callB call_isi (by rfl) T.z_isinstance (by decide +kernel) (pa_cons (pv 1) (pa_cons (pe_glob (v := .ref (ga K "Truth")) (by rfl) T.g_Truth rfl) pa_nil)))))
        (pss_one ps_never)
        pss_nil)
      (pss_one (ps_ret (pe_cmpR op_eq (pe_fld (pv 0) rfl) (pe_fld (pv 1) rfl) (nomark _))))), ?_⟩
    k_subL
    simp only [V.int.injEq]
    exact q
theorem ok_Truth_ne (T : Txt K mg) : Hk.AOk P w K mg base CX0 1 (Hk.mt K "Truth" "__ne__") ["self", "other"] (sp_Truth_cmp K (fun r t => !decide (r = t))) := by
  refine Hk.mkA T.f_Truth_ne (fun _ _ _ _ _ _ us hl => match us, hl with | [_, _], _ => rfl) sc_Truth_ne (fun vs H Q E h => ?_) (fun cdv A outer s H vs Q E hr h => ?_)
  · obtain ⟨a, b, r, t, rfl, _⟩ := h
    rfl
  · obtain ⟨a, b, r, t, rfl, ⟨dx, ha⟩, ⟨dy, hb⟩, q⟩ := h
    have hc := T.cl_Truth
    have hn := T.n_Truth_rank
    have hi := T.i_Truth.ty hb
    have hk := T.kt_Truth_Truth
    refine ⟨_, (pss_cons (ps_if (pt_not (pt_val (pe_callB call_isi (by rfl) T.z_isinstance (by decide +kernel) (pa_cons (pv 1) (pa_cons (pe_glob (v := .ref (ga K "Truth")) (by rfl) T.g_Truth rfl) pa_nil)))))
        (pss_one ps_never)
        pss_nil)
      (pss_one (ps_ret (pe_cmpR op_ne (pe_fld (pv 0) rfl) (pe_fld (pv 1) rfl) (nomark _))))), ?_⟩
    k_subL
    simp only [V.int.injEq]
    exact q
theorem ok_Truth_lt (T : Txt K mg) : Hk.AOk P w K mg base CX0 1 (Hk.mt K "Truth" "__lt__") ["self", "other"] (sp_Truth_cmp K (fun r t => decide (r < t))) := by
  refine Hk.mkA T.f_Truth_lt (fun _ _ _ _ _ _ us hl => match us, hl with | [_, _], _ => rfl) sc_Truth_lt (fun vs H Q E h => ?_) (fun cdv A outer s H vs Q E hr h => ?_)
  · obtain ⟨a, b, r, t, rfl, _⟩ := h
    rfl
  · obtain ⟨a, b, r, t, rfl, ⟨dx, ha⟩, ⟨dy, hb⟩, q⟩ := h
    have hc := T.cl_Truth
    have hn := T.n_Truth_rank
    have hi := T.i_Truth.ty hb
    have hk := T.kt_Truth_Truth
    refine ⟨_, (pss_cons (ps_if (pt_not (pt_val (pe_callB call_isi (by rfl) T.z_isinstance (by decide +kernel) (pa_cons (pv 1) (pa_cons (pe_glob (v := .ref (ga K "Truth")) (by rfl) T.g_Truth rfl) pa_nil)))))
        (pss_one ps_never)
        pss_nil)
      (pss_one (ps_ret (pe_cmpR op_lt (pe_fld (pv 0) rfl) (pe_fld (pv 1) rfl) (nomark _))))), ?_⟩
    k_subL
    exact q
theorem ok_Truth_le (T : Txt K mg) : Hk.AOk P w K mg base CX0 1 (Hk.mt K "Truth" "__le__") ["self", "other"] (sp_Truth_cmp K (fun r t => decide (r ≤ t))) := by
  refine Hk.mkA T.f_Truth_le (fun _ _ _ _ _ _ us hl => match us, hl with | [_, _], _ => rfl) sc_Truth_le (fun vs H Q E h => ?_) (fun cdv A outer s H vs Q E hr h => ?_)
  · obtain ⟨a, b, r, t, rfl, _⟩ := h
    rfl
  · obtain ⟨a, b, r, t, rfl, ⟨dx, ha⟩, ⟨dy, hb⟩, q⟩ := h
    have hc := T.cl_Truth
    have hn := T.n_Truth_rank
    have hi := T.i_Truth.ty hb
    have hk := T.kt_Truth_Truth
    refine ⟨_, (pss_cons (ps_if (pt_not (pt_val (pe_callB call_isi (by rfl) T.z_isinstance (by decide +kernel) (pa_cons (pv 1) (pa_cons (pe_glob (v := .ref (ga K "Truth")) (by rfl) T.g_Truth rfl) pa_nil)))))
        (pss_one ps_never)
        pss_nil)
      (pss_one (ps_ret (pe_cmpR op_le (pe_fld (pv 0) rfl) (pe_fld (pv 1) rfl) (nomark _))))), ?_⟩
    k_subL
    exact q
theorem wordS_in {r : Int} (h : R3 r) : inV (.str (wordS r)) [V.str "false", V.str "unknown", V.str "true"] = true := by
  rcases h with rfl | rfl | rfl <;> decide +kernel
theorem inV_word {z : Str} (h : inV (.str z) [V.str "false", V.str "unknown", V.str "true"] = true) : ∃ r, R3 r ∧ z = wordS r := by
  unfold inV at h
  simp only [List.any_cons, List.any_nil, Bool.or_false, Bool.or_eq_true] at h
  rcases h with h | h | h
  · exact ⟨0, .inl rfl, (of_decide_eq_true (show decide (("false" : Str) = z) = true from h)).symm⟩
  · exact ⟨1, .inr (.inl rfl), (of_decide_eq_true (show decide (("unknown" : Str) = z) = true from h)).symm⟩
  · exact ⟨2, .inr (.inr rfl), (of_decide_eq_true (show decide (("true" : Str) = z) = true from h)).symm⟩
theorem word_at {r : Int} (h : R3 r) : ∃ j : Nat, (["false", "unknown", "true"] : List Str)[j]? = some (wordS r) ∧ (∀ m, m < j → (["false", "unknown", "true"] : List Str)[m]? ≠ some (wordS r)) ∧ (j : Int) = r := by
  rcases h with rfl | rfl | rfl
  · exact ⟨0, rfl, fun m hm => absurd hm (Nat.not_lt_zero m), rfl⟩
  · refine ⟨1, rfl, fun m hm => ?_, rfl⟩
    obtain rfl : m = 0 := by omega
    exact fun z => absurd (Option.some.inj z) (by decide +kernel)
  · refine ⟨2, rfl, fun m hm => ?_, rfl⟩
    obtain rfl | rfl : m = 0 ∨ m = 1 := by omega
    · exact fun z => absurd (Option.some.inj z) (by decide +kernel)
    · exact fun z => absurd (Option.some.inj z) (by decide +kernel)
theorem ok_Truth_from_word (T : Txt K mg) : Hk.AOk P w K mg base (L2.CX P w) 3 (Hk.sg K "Truth" "from_word") ["word"] (sp_Truth_from_word K) := by
  refine Hk.mkAX T.f_Truth_from_word (fun _ _ _ _ _ _ us hl => match us, hl with | [_], _ => rfl) sc_Truth_from_word (fun vs H Q E h => ?_) (fun cdv A outer s H vs Q E hr h => ?_)
  · obtain ⟨z, rfl, _⟩ := h
    rfl
  · obtain ⟨z, rfl, q, qe⟩ := h
    have ht := T.t_WORDS H
    have ho := T.o_WORDS H
    refine ⟨_, (pss_cons (ps_if (pt_cmpR op_notIn_seq (pv 0) (pe_glob (v := .ref (ga K "WORDS")) (by rfl) T.g_WORDS rfl) rfl)
        (pss_one (ps_raise rfl (takes_of rfl rfl rfl rfl) (pmk_own PySem.F.excBase_ValueError T.x_InvalidCondition.ex T.g_InvalidCondition T.x_InvalidCondition.kp (raises_own T.x_InvalidCondition.sb T.x_InvalidCondition.ty) rfl)))
        pss_nil)
      (pss_one (ps_ret (Hk.pe_mk T.mk_Truth (ok_Truth_init T) T.g_Truth (hr.mono (by decide)) pass0 (pa_cons (pe_bm PySem.F.plainAttrs_tuple PySem.F.slot_tuple_index PySem.F.type_tuple_index mt_tup_index (pe_glob (v := .ref (ga K "WORDS")) (by rfl) T.g_WORDS rfl) (pa_cons (pv 0) pa_nil)) pa_nil))))), ?_⟩
    k_subL
    rw [show (if true = true then !inV (.str z) [V.str "false", V.str "unknown", V.str "true"] else inV (.str z) [V.str "false", V.str "unknown", V.str "true"]) = !inV (.str z) [V.str "false", V.str "unknown", V.str "true"] from rfl]
    cases e : inV (.str z) [V.str "false", V.str "unknown", V.str "true"] with
    | false =>
      refine iteT (qe fun r h3 ez => ?_)
      subst ez
      rw [wordS_in h3] at e
      cases e
    | true =>
      refine iteF ?_
      obtain ⟨r, h3, rfl⟩ := inV_word e
      have ht2 : SqT K H (ga K "WORDS") ((["false", "unknown", "true"] : List Str).map V.str) := ht
      clear ht
      obtain ⟨j, j1, j2, j3⟩ := word_at h3
      k_subL
      refine mk_truth ?_
      rw [j3]
      exact q r h3 rfl
end
end K00


set_option Elab.async false
set_option linter.all false
set_option maxRecDepth 100000
set_option maxHeartbeats 4000000
/-! ### readings by themselves -/
open PySem PySem.Spec PyProof.Rows L2 in
local macro_rules | `(tactic| k_allIn) => `(tactic| first | (with_reducible assumption) | exact upd_same | (refine Hk.same_upd (by assumption) _ _ ?_; k_allIn) | (refine (upd_ne (by first | assumption | exact Ne.symm (by assumption))).trans ?_; k_allIn))
open PySem PySem.Spec PyProof.Rows L2 in
local macro_rules | `(tactic| k_memK) => `(tactic| first | (with_reducible exact rfl) | (with_reducible assumption) | exact rfl | exact Hk.lk_hd | k_allIn | exact Or.inl (Or.inl (by k_allIn)) | exact ⟨_, rfl⟩ | exact Or.inl ⟨rfl, _, by assumption⟩ | exact Or.inl ⟨rfl, _, Or.inl (Or.inl (by k_allIn))⟩ | exact (fun _ h => h) | exact ClsV.own _ | exact ClsV.ty _ | exact Or.inl ‹_› | exact Or.inr ‹_› | lcg_src | exact Or.inl ⟨by omega, by omega⟩ | exact Or.inr ⟨by omega, by omega⟩ | exact ⟨by omega, by omega⟩ | exact Nat.le_of_lt (small1000 (by simp)) | exact small1000 (by simp) | exact Nat.le_of_lt (small1000 (by omega)) | exact small1000 (by omega) | omega | assumption | decide +kernel)
local macro_rules | `(tactic| lcg_sub) => `(tactic| (refine And.intro ?_ ?_; k_memK))
local macro_rules | `(tactic| k_subL) => `(tactic| (repeat (first | (apply Exists.intro) | lcg_sub | (refine Or.inl ⟨_, rfl, ?_⟩) | (refine Or.inr ⟨_, rfl, ?_⟩))))
namespace K00
open PySem PySem.Spec PyProof.Rows L2
open He (ga ma ba)
/-! ### the law's draws -/
/-- the box: the script's copy, the place, the number, the count, whether it is great -/
structure BoxIs (H : Hp) (b l : Addr) (ns : List Int) (i m c g : Int) : Prop where
  hb : H b = some (.lst [.ref l, .int i, .int m, .int c, .int g])
  hl : H l = some (.lst (ns.map V.int))
  h0 : 0 ≤ i
  hn : ns.length ≤ 63
def BoxAt (H : Hp) (b l : Addr) : Prop := ∃ ns i m c g, BoxIs H b l ns i m c g
/-- all but the thing at b is as it was -/
def SameBut (b : Addr) (H H' : Hp) : Prop := ∀ x o, H x = some o → x ≠ b → H' x = some o
theorem SameBut.refl (b : Addr) (H : Hp) : SameBut b H H := fun _ _ h _ => h
theorem SameBut.upd {b : Addr} {H : Hp} {o : HO} : SameBut b H (upd H b o) := fun x o' h n => by rw [upd_ne n]; exact h
theorem SameBut.trans {b : Addr} {H H1 H2 : Hp} (h : SameBut b H H1) (k : SameBut b H1 H2) : SameBut b H H2 := fun x o e n => k x o (h x o e n) n
theorem BoxIs.ne {H : Hp} {b l : Addr} {ns : List Int} {i m c g : Int} (B : BoxIs H b l ns i m c g) : l ≠ b := by
  intro e
  have h1 := B.hb
  have h2 := B.hl
  rw [e, h1] at h2
  injection h2 with h2
  injection h2 with h2
  cases ns with
  | nil => cases h2
  | cons x r => injection h2 with h2 _; cases h2
theorem BoxIs.set {H : Hp} {b l : Addr} {ns : List Int} {i m c g i' m' c' g' : Int} (B : BoxIs H b l ns i m c g) (h : 0 ≤ i') : BoxIs (upd H b (.lst [.ref l, .int i', .int m', .int c', .int g'])) b l ns i' m' c' g' :=
  ⟨upd_same, by rw [upd_ne B.ne]; exact B.hl, h, B.hn⟩
theorem BoxAt.ne {H : Hp} {b l p : Addr} (B : BoxAt H b l) (n : H p = none) : p ≠ b := by
  obtain ⟨ns, i, m, c, g, B⟩ := B
  exact (ne_of_none B.hb n).symm
theorem BoxAt.nel {H : Hp} {b l p : Addr} (B : BoxAt H b l) (n : H p = none) : p ≠ l := by
  obtain ⟨ns, i, m, c, g, B⟩ := B
  exact (ne_of_none B.hl n).symm
theorem BoxAt.set {H : Hp} {b l p : Addr} {o : HO} (B : BoxAt H b l) (n : p ≠ b) (k : p ≠ l) : BoxAt (upd H p o) b l := by
  obtain ⟨ns, i, m, c, g, ⟨h1, h2, h3, h4⟩⟩ := B
  exact ⟨ns, i, m, c, g, ⟨by rw [upd_ne n.symm]; exact h1, by rw [upd_ne k.symm]; exact h2, h3, h4⟩⟩
theorem BoxAt.upd {H : Hp} {b l p : Addr} {o : HO} (B : BoxAt H b l) (n : H p = none) : BoxAt (upd H p o) b l := B.set (B.ne n) (B.nel n)
theorem BoxAt.same {H H' : Hp} {b l : Addr} (B : BoxAt H b l) (s : Same H H') : BoxAt H' b l := by
  obtain ⟨ns, i, m, c, g, ⟨h1, h2, h3, h4⟩⟩ := B
  exact ⟨ns, i, m, c, g, ⟨s _ _ h1, s _ _ h2, h3, h4⟩⟩
theorem Same.but {H H' : Hp} (s : Same H H') (b : Addr) : SameBut b H H' := fun x o h _ => s x o h
def sp_box (K : PySem.W.Frag) : Sp := fun vs H Q _ => ∃ (a : Addr) (ns : List Int), vs = [.ref a] ∧ SqL K H a (ns.map V.int) ∧ ns.length ≤ 63 ∧ ∀ b l H', Same H H' → H b = none → H l = none → BoxAt H' b l → Q (.ref b) H'
def sp_draw : Sp := fun vs H Q _ => ∃ b n l, vs = [.ref b, .int n] ∧ BoxAt H b l ∧ 0 < n ∧ n < 1000000 ∧ ∀ k H', 0 ≤ k → k < n → BoxAt H' b l → SameBut b H H' → Q (.int k) H'
section
variable {P : Program} {w : World} {K : PySem.W.Frag} {mg : Str → Option Value} {base : Heap}
theorem ok_box (T : Txt K mg) : Hk.GOk P w K mg base CX0 1 "_law_box" ["_law_script"] (sp_box K) := by
  refine Hk.mkG T.g__law_box T.f_box (fun _ _ _ _ _ _ us hl => match us, hl with | [_], _ => rfl) sc_box (fun vs H Q E h => ?_) (fun cdv A outer s H vs Q E hr h => ?_)
  · obtain ⟨a, ns, rfl, _⟩ := h
    rfl
  · obtain ⟨a, ns, rfl, hs, hn, q⟩ := h
    refine ⟨_, (pss_one (ps_ret (pe_lst (pa_cons (pe_callTy call_list_of (by rfl) T.z_list (by decide +kernel) (pa_cons (pv 0) pa_nil)) (pa_cons pe_int (pa_cons pe_int (pa_cons pe_int (pa_cons pe_int pa_nil)))))))), ?_⟩
    k_subL
    intro l nl
    refine And.intro ?_ ?_
    · refine Nat.le_of_lt (small1000 ?_)
      trace_state
      simp
    intro b nb
    have nlb : l ≠ b := ne_of_none upd_same nb
    refine q b l _ (fun x o e => ?_) ?_ nl ⟨ns, 0, 0, 0, 0, ⟨upd_same, ?_, by omega, hn⟩⟩
    · rw [upd_ne (ne_of_none (Hk.same_upd nl _ _ e) nb), upd_ne (ne_of_none e nl)]
      exact e
    · exact (Hk.same_upd nl).free nb
    · rw [upd_ne nlb]
      exact upd_same
/-- behind the filling: a box whose count is not 0 is drawn from -/
theorem ok_draw (T : Txt K mg) : Hk.GOk P w K mg base CX0 1 "_law_draw" ["_law_box_here", "_law_size"] (sp_draw) := by
  refine Hk.mkG T.g__law_draw T.f_draw (fun _ _ _ _ _ _ us hl => match us, hl with | [_, _], _ => rfl) sc_draw (fun vs H Q E h => ?_) (fun cdv A outer s H vs Q E hr h => ?_)
  · obtain ⟨b, n, l, rfl, _⟩ := h
    rfl
  · obtain ⟨b, n, l, rfl, ⟨ns, i, m, c, g, B⟩, h0, h1, q⟩ := h
    have hne := B.ne
    obtain ⟨hb, hl, hi, hn⟩ := id B
    refine ⟨_, (pss_cons (ps_if (pt_cmpR op_eq (pe_ix ix_list (pv 0) pe_int (fun _ _ => rfl)) pe_int (nomark _))
        (pss_cons (ps_if (pt_cmpR op_ge (pe_ix ix_list (pv 0) pe_int (fun _ _ => rfl)) (pe_callB call_len_seq (by rfl) T.z_len (by decide +kernel) (pa_cons (pe_ix ix_list (pv 0) pe_int (fun _ _ => rfl)) pa_nil)) (nomark _))
          (pss_one (ps_ret pe_int))
          pss_nil)
        (pss_cons (ps_asg (pe_callB call_abs (by rfl) T.z_abs (by decide +kernel) (pa_cons (pe_callTy call_int1 (by rfl) T.z_int (by decide +kernel) (pa_cons (pe_ix ix_list (pe_ix ix_list (pv 0) pe_int (fun _ _ => rfl)) (pe_ix ix_list (pv 0) pe_int (fun _ _ => rfl)) (fun _ _ => rfl)) pa_nil)) pa_nil)) (pg_sub (pv 0) pe_int set_list))
        (pss_cons (ps_asg (pe_op op_add (pe_ix ix_list (pv 0) pe_int (fun _ _ => rfl)) pe_int) (pg_sub (pv 0) pe_int set_list))
        (pss_cons (ps_asg (pe_callTy call_int1 (by rfl) T.z_int (by decide +kernel) (pa_cons (pe_cmpR op_ge (pe_ix ix_list (pv 0) pe_int (fun _ _ => rfl)) (pe_op op_pow pe_int pe_int) (nomark _)) pa_nil)) (pg_sub (pv 0) pe_int set_list))
        (pss_one (ps_asg (pe_op op_add pe_int (pe_op op_mul pe_int (pe_ix ix_list (pv 0) pe_int (fun _ _ => rfl)))) (pg_sub (pv 0) pe_int set_list)))))))
        pss_nil)
      (pss_cons (ps_asg (pe_op op_sub (pe_ix ix_list (pv 0) pe_int (fun _ _ => rfl)) pe_int) (pg_sub (pv 0) pe_int set_list))
      (pss_cons (ps_if (pt_cmpR op_eq (pe_ix ix_list (pv 0) pe_int (fun _ _ => rfl)) pe_int (nomark _))
        (pss_cons (ps_set (i := 2) sc_draw.nd rfl (.inl rfl) (pe_op op_modN (pe_callTy call_int1 (by rfl) T.z_int (by decide +kernel) (pa_cons (pe_ix ix_list (pv 0) pe_int (fun _ _ => rfl)) pa_nil)) (pv 1)))
        (pss_cons (ps_asg (pe_op op_fdivN (pe_callTy call_int1 (by rfl) T.z_int (by decide +kernel) (pa_cons (pe_ix ix_list (pv 0) pe_int (fun _ _ => rfl)) pa_nil)) (pv 1)) (pg_sub (pv 0) pe_int set_list))
        (pss_cons (ps_if (pt_cmpR op_eq (pe_ix ix_list (pv 0) pe_int (fun _ _ => rfl)) pe_int (nomark _))
          (pss_one (ps_asg pe_int (pg_sub (pv 0) pe_int set_list)))
          pss_nil)
        (pss_one (ps_ret (pv 2))))))
        pss_nil)
      (pss_cons (ps_set (i := 3) sc_draw.nd rfl (.inl rfl) (pe_op op_modN (pe_callTy call_int1 (by rfl) T.z_int (by decide +kernel) (pa_cons (pe_op op_add (pe_op op_add (pe_op op_mul (pe_callTy call_int1 (by rfl) T.z_int (by decide +kernel) (pa_cons (pe_ix ix_list (pv 0) pe_int (fun _ _ => rfl)) pa_nil)) pe_int) (pe_op op_mul (pe_ix ix_list (pv 0) pe_int (fun _ _ => rfl)) pe_int)) pe_int) pa_nil)) pe_int))
      (pss_cons (ps_set (i := 3) sc_draw.nd rfl (.inl rfl) (pe_op op_modN (pe_callTy call_int1 (by rfl) T.z_int (by decide +kernel) (pa_cons (pe_op op_add (pe_op op_add (pe_op op_mul (pv 3) pe_int) (pe_op op_mul (pe_ix ix_list (pv 0) pe_int (fun _ _ => rfl)) pe_int)) pe_int) pa_nil)) pe_int))
      (pss_one (ps_ret (pe_op op_modN (pe_callTy call_int1 (by rfl) T.z_int (by decide +kernel) (pa_cons (pv 3) pa_nil)) (pv 1))))))))), ?_⟩
    refine Hk.seq_rest (fun σ' H' => σ' = [some (.ref b), some (.int n), none, none] ∧ (∃ i m c g, BoxIs H' b l ns i m c g) ∧ SameBut b H H') (fun nx hnx => ?_) ?_
    · k_subL
      rw [Hk.dI]
      refine ite2 (fun e => ?_) (fun e => ?_)
      · have el : SqL K H l (ns.map V.int) := .inl (.inl hl)
        k_subL
        refine ite2 (fun e2 => ?_) (fun e2 => ?_)
        · exact q 0 H (Int.le_refl _) h0 ⟨ns, i, m, c, g, B⟩ (SameBut.refl _ _)
        · have hlt : i < ns.length := by
            rw [decide_eq_true_eq, List.length_map] at e2
            omega
          obtain ⟨x, hx, _⟩ := Hk.atI_map (f := V.int) hi hlt
          k_subL
          refine hnx _ _ ⟨rfl, ⟨_, _, _, _, ⟨upd_same, by k_allIn, ?_, hn⟩⟩, fun x o h n => ?_⟩
          · show 0 ≤ i + 1
            omega
          · repeat rw [upd_ne n]
            exact h
      · exact hnx _ _ ⟨rfl, ⟨i, m, c, g, B⟩, SameBut.refl _ _⟩
    · clear B hb hl hi
      rintro σ' H1 ⟨rfl, ⟨i, m, c, g, B⟩, hs⟩
      obtain ⟨hb, hl, hi, hn⟩ := id B
      k_subL
      rw [Hk.dI]
      refine ite2 (fun e => ?_) (fun e => ?_)
      · k_subL
        rw [Hk.dI]
        refine ite2 (fun e2 => ?_) (fun e2 => ?_)
        · k_subL
          refine q _ _ (Hk.fmod_lo h0) (Hk.fmod_hi h0) ⟨ns, _, _, _, _, ⟨upd_same, by k_allIn, hi, hn⟩⟩ fun x o h n => ?_
          repeat rw [upd_ne n]
          exact hs _ _ h n
        · k_subL
          refine q _ _ (Hk.fmod_lo h0) (Hk.fmod_hi h0) ⟨ns, _, _, _, _, ⟨upd_same, by k_allIn, hi, hn⟩⟩ fun x o h n => ?_
          repeat rw [upd_ne n]
          exact hs _ _ h n
      · k_subL
        refine q _ _ (Hk.fmod_lo h0) (Hk.fmod_hi h0) ⟨ns, _, _, _, _, ⟨upd_same, by k_allIn, hi, hn⟩⟩ fun x o h n => ?_
        repeat rw [upd_ne n]
        exact hs _ _ h n
end
end K00


set_option Elab.async false
set_option linter.all false
set_option maxRecDepth 100000
set_option maxHeartbeats 4000000
/-! ### readings by themselves -/
open PySem PySem.Spec PyProof.Rows L2 in
local macro_rules | `(tactic| k_allIn) => `(tactic| first | (with_reducible assumption) | exact upd_same | (refine Hk.same_upd (by assumption) _ _ ?_; k_allIn) | (refine (upd_ne (by first | assumption | exact Ne.symm (by assumption))).trans ?_; k_allIn))
open PySem PySem.Spec PyProof.Rows L2 in
local macro_rules | `(tactic| k_memK) => `(tactic| first | (with_reducible exact rfl) | (with_reducible assumption) | exact rfl | exact Hk.lk_hd | k_allIn | exact Or.inl (Or.inl (by k_allIn)) | exact ⟨_, rfl⟩ | exact Or.inl ⟨rfl, _, by assumption⟩ | exact Or.inl ⟨rfl, _, Or.inl (Or.inl (by k_allIn))⟩ | exact (fun _ h => h) | exact ClsV.own _ | exact ClsV.ty _ | exact Or.inl ‹_› | exact Or.inr ‹_› | lcg_src | exact Or.inl ⟨by omega, by omega⟩ | exact Or.inr ⟨by omega, by omega⟩ | exact ⟨by omega, by omega⟩ | exact Nat.le_of_lt (small1000 (by simp)) | exact small1000 (by simp) | exact Nat.le_of_lt (small1000 (by omega)) | exact small1000 (by omega) | omega | assumption | decide +kernel)
local macro_rules | `(tactic| lcg_sub) => `(tactic| (refine And.intro ?_ ?_; k_memK))
local macro_rules | `(tactic| k_subL) => `(tactic| (repeat (first | (apply Exists.intro) | lcg_sub | (refine Or.inl ⟨_, rfl, ?_⟩) | (refine Or.inr ⟨_, rfl, ?_⟩))))
namespace K00
open PySem PySem.Spec PyProof.Rows L2
open He (ga ma ba)
/-- data of less than this depth, no list of more than 1,000 -/
def fits : Nat → PyData → Bool
  | 0, _ => false
  | _ + 1, .dict _ => false
  | n + 1, .list ds => decide (ds.length ≤ 1000) && ds.all (fits n)
  | n + 1, .tuple ds => decide (ds.length ≤ 1000) && ds.all (fits n)
  | _ + 1, _ => true
def sp_alike (K : PySem.W.Frag) (n : Nat) : Sp := fun vs H Q _ => ∃ x y d, vs = [x, y] ∧ Dp K H x d ∧ Dp K H y d ∧ fits n d = true ∧ Q (.bl true) H
def sp_pick (K : PySem.W.Frag) : Sp := fun vs H Q _ => ∃ b a xs l, vs = [.ref b, .ref a] ∧ BoxAt H b l ∧ SqL K H a xs ∧ a ≠ b ∧ 0 < xs.length ∧ xs.length ≤ 1000 ∧ ∀ (k : Nat) v H', xs[k]? = some v → BoxAt H' b l → SameBut b H H' → Q v H'
theorem SqL.but {K : PySem.W.Frag} {H H' : Hp} {a b : Addr} {xs : List V} (h : SqL K H a xs) (s : SameBut b H H') (n : a ≠ b) : SqL K H' a xs := by
  rcases h with (h | ⟨o, h⟩) | h
  · exact .inl (.inl (s _ _ h n))
  · exact .inl (.inr ⟨o, s _ _ h n⟩)
  · exact .inr h
section
variable {P : Program} {w : World} {K : PySem.W.Frag} {mg : Str → Option Value} {base : Heap}
theorem ok_pick (T : Txt K mg) : Hk.GOk P w K mg base CX0 2 "_law_pick" ["_law_box_here", "_law_menu"] (sp_pick K) := by
  refine Hk.mkG T.g__law_pick T.f_pick (fun _ _ _ _ _ _ us hl => match us, hl with | [_, _], _ => rfl) sc_pick (fun vs H Q E h => ?_) (fun cdv A outer s H vs Q E hr h => ?_)
  · obtain ⟨b, a, xs, l, rfl, _⟩ := h
    rfl
  · obtain ⟨b, a, xs, l, rfl, hb, hs, hne, h0, h1, q⟩ := h
    refine ⟨_, (pss_one (ps_ret (pe_ix ix_list (pv 1) (Hk.pe_g (ok_draw T) (hr.mono (by decide)) pass0 (pa_cons (pv 0) (pa_cons (pe_callB call_len_seq (by rfl) T.z_len (by decide +kernel) (pa_cons (pv 1) pa_nil)) pa_nil))) (fun _ _ => rfl)))), ?_⟩
    have hl : SqL K H a xs ∨ SqT K H a xs := .inl hs
    k_subL
    intro k H' hk0 hk1 hb' hs'
    have hs2 : SqL K H' a xs := SqL.but hs hs' hne
    obtain ⟨x, hx, hx2⟩ := Hk.atI_of hk0 hk1
    k_subL
    exact q _ _ _ hx2 hb' hs'
theorem kBB : PySem.W.kitOne K (.type "bool") (.type "bool") = some true := kit_ty (by decide +kernel)
theorem kII : PySem.W.kitOne K (.type "int") (.type "int") = some true := kit_ty (by decide +kernel)
theorem kIB : PySem.W.kitOne K (.type "int") (.type "bool") = some false := kit_ty (by decide +kernel)
theorem kSI : PySem.W.kitOne K (.type "str") (.type "int") = some false := kit_ty (by decide +kernel)
theorem kSS : PySem.W.kitOne K (.type "str") (.type "str") = some true := kit_ty (by decide +kernel)
theorem kTI : PySem.W.kitOne K (.type "tuple") (.type "int") = some false := kit_ty (by decide +kernel)
theorem kTS : PySem.W.kitOne K (.type "tuple") (.type "str") = some false := kit_ty (by decide +kernel)
theorem kTT : PySem.W.kitOne K (.type "tuple") (.type "tuple") = some true := kit_ty (by decide +kernel)
theorem kLI : PySem.W.kitOne K (.type "list") (.type "int") = some false := kit_ty (by decide +kernel)
theorem kLS : PySem.W.kitOne K (.type "list") (.type "str") = some false := kit_ty (by decide +kernel)
theorem kLT : PySem.W.kitOne K (.type "list") (.type "tuple") = some false := kit_ty (by decide +kernel)
theorem kLL : PySem.W.kitOne K (.type "list") (.type "list") = some true := kit_ty (by decide +kernel)
theorem alike_step (T : Txt K mg) (n : Nat) (G : Hk.GOk P w K mg base CX0 n "_law_alike" ["_law_actual", "_law_due"] (sp_alike K n)) : Hk.GOk P w K mg base CX0 (n+1) "_law_alike" ["_law_actual", "_law_due"] (sp_alike K (n+1)) := by
  refine Hk.mkG T.g__law_alike T.f_alike (fun _ _ _ _ _ _ us hl => match us, hl with | [_, _], _ => rfl) sc_alike (fun vs H Q E h => ?_) (fun cdv A outer s H vs Q E hr h => ?_)
  · obtain ⟨x, y, d, rfl, _⟩ := h
    rfl
  · obtain ⟨x, y, d, rfl, hx, hy, hf, q⟩ := h
    have k1 : PySem.W.kitOne K (.type "bool") (.type "bool") = some true := kBB
    have k2 : PySem.W.kitOne K (.type "int") (.type "int") = some true := kII
    have k3 : PySem.W.kitOne K (.type "int") (.type "bool") = some false := kIB
    have k4 : PySem.W.kitOne K (.type "str") (.type "int") = some false := kSI
    have k5 : PySem.W.kitOne K (.type "str") (.type "str") = some true := kSS
    have k6 : PySem.W.kitOne K (.type "tuple") (.type "int") = some false := kTI
    have k7 : PySem.W.kitOne K (.type "tuple") (.type "str") = some false := kTS
    have k8 : PySem.W.kitOne K (.type "tuple") (.type "tuple") = some true := kTT
    have k9 : PySem.W.kitOne K (.type "list") (.type "int") = some false := kLI
    have k10 : PySem.W.kitOne K (.type "list") (.type "str") = some false := kLS
    have k11 : PySem.W.kitOne K (.type "list") (.type "tuple") = some false := kLT
    have k12 : PySem.W.kitOne K (.type "list") (.type "list") = some true := kLL
    refine ⟨_, (pss_cons (ps_if (pt_cmpR op_isN (pv 1) pe_non (nomark _))
        (pss_one (ps_ret (pe_cmpR op_isN (pv 0) pe_non (nomark _))))
        pss_nil)
      (pss_cons (ps_if (PW.pt (pw_or (pt_cmpR Hk.op_isB (pv 1) pe_bl (nomark _)) (pw_or1 (pt_cmpR Hk.op_isB (pv 1) pe_bl (nomark _)))))
        (pss_one (ps_ret (pe_and (pe_callB call_isi (by rfl) T.z_isinstance (by decide +kernel) (pa_cons (pv 0) (pa_cons (pe_bltn (v := .ty "bool") (by rfl) T.z_bool (by decide +kernel) rfl) pa_nil))) (pe_one (pe_cmpR op_eq (pv 0) (pv 1) (nomark _))))))
        pss_nil)
      (pss_cons (ps_if (pt_val (pe_callB call_isi (by rfl) T.z_isinstance (by decide +kernel) (pa_cons (pv 1) (pa_cons (pe_bltn (v := .ty "int") (by rfl) T.z_int (by decide +kernel) rfl) pa_nil))))
        (pss_one (ps_ret (pe_and (pe_callB call_isi (by rfl) T.z_isinstance (by decide +kernel) (pa_cons (pv 0) (pa_cons (pe_bltn (v := .ty "int") (by rfl) T.z_int (by decide +kernel) rfl) pa_nil))) (pe_and (pe_not (pe_callB call_isi (by rfl) T.z_isinstance (by decide +kernel) (pa_cons (pv 0) (pa_cons (pe_bltn (v := .ty "bool") (by rfl) T.z_bool (by decide +kernel) rfl) pa_nil)))) (pe_one (pe_cmpR op_eq (pv 0) (pv 1) (nomark _)))))))
        pss_nil)
      (pss_cons (ps_if (pt_val (pe_callB call_isi (by rfl) T.z_isinstance (by decide +kernel) (pa_cons (pv 1) (pa_cons (pe_bltn (v := .ty "str") (by rfl) T.z_str (by decide +kernel) rfl) pa_nil))))
        (pss_one (ps_ret (pe_and (pe_callB call_isi (by rfl) T.z_isinstance (by decide +kernel) (pa_cons (pv 0) (pa_cons (pe_bltn (v := .ty "str") (by rfl) T.z_str (by decide +kernel) rfl) pa_nil))) (pe_one (pe_cmpR op_eq (pv 0) (pv 1) (nomark _))))))
        pss_nil)
      (pss_cons (ps_if (pt_val (pe_callB call_isi (by rfl) T.z_isinstance (by decide +kernel) (pa_cons (pv 1) (pa_cons (pe_bltn (v := .ty "tuple") (by rfl) T.z_tuple (by decide +kernel) rfl) pa_nil))))
        (pss_one (ps_if (PW.pt (pw_or (pt_not (pt_val (pe_callB call_isi (by rfl) T.z_isinstance (by decide +kernel) (pa_cons (pv 0) (pa_cons (pe_bltn (v := .ty "tuple") (by rfl) T.z_tuple (by decide +kernel) rfl) pa_nil))))) (pw_or1 (pt_cmpR op_ne (pe_callB call_len_seq (by rfl) T.z_len (by decide +kernel) (pa_cons (pv 0) pa_nil)) (pe_callB call_len_seq (by rfl) T.z_len (by decide +kernel) (pa_cons (pv 1) pa_nil)) (nomark _)))))
          (pss_one (ps_ret pe_bl))
          pss_nil))
        (pss_one (ps_if (PW.pt (pw_or (pt_not (pt_val (pe_callB call_isi (by rfl) T.z_isinstance (by decide +kernel) (pa_cons (pv 0) (pa_cons (pe_bltn (v := .ty "list") (by rfl) T.z_list (by decide +kernel) rfl) pa_nil))))) (pw_or1 (pt_cmpR op_ne (pe_callB call_len_seq (by rfl) T.z_len (by decide +kernel) (pa_cons (pv 0) pa_nil)) (pe_callB call_len_seq (by rfl) T.z_len (by decide +kernel) (pa_cons (pv 1) pa_nil)) (nomark _)))))
          (pss_one (ps_ret pe_bl))
          pss_nil)))
      (pss_cons (ps_for PassesOwn.never rfl (pi_range1 (by rfl) T.z_range (pa_cons (pe_callB call_len_seq (by rfl) T.z_len (by decide +kernel) (pa_cons (pv 1) pa_nil)) pa_nil)) (pg_name (i := 2) sc_alike.nd rfl (.inl rfl))
        (pss_one (ps_if (pt_not (pt_val (Hk.pe_g G hr pass0 (pa_cons (pe_ix ix_seq (pv 0) (pv 2) (fun _ _ => rfl)) (pa_cons (pe_ix ix_seq (pv 1) (pv 2) (fun _ _ => rfl)) pa_nil)))))
          (pss_one (ps_ret pe_bl))
          pss_nil)))
      (pss_one (ps_ret pe_bl)))))))), ?_⟩
    cases d with
    | none =>
      cases hx
      cases hy
      k_subL
      exact q
    | bool b =>
      cases hx
      cases hy
      have t1 : TyX K H (.bl b) (.type "bool") := .base (.bl b)
      refine Hk.seq_skip (fun nx hnx => ?_) ?_
      · k_subL
        exact hnx
      · cases b with
        | true =>
          k_subL
          exact q
        | false =>
          k_subL
          exact q
    | int i =>
      cases hx
      cases hy
      have t1 : TyX K H (.int i) (.type "int") := .base (.int i)
      refine Hk.seq_skip (fun nx hnx => ?_) ?_
      · k_subL
        exact hnx
      refine Hk.seq_skip (fun nx hnx => ?_) ?_
      · k_subL
        exact hnx
      k_subL
      rw [decide_eq_true rfl]
      exact q
    | str z =>
      cases hx
      cases hy
      have t1 : TyX K H (.str z) (.type "str") := .base (.str z)
      refine Hk.seq_skip (fun nx hnx => ?_) ?_
      · k_subL
        exact hnx
      refine Hk.seq_skip (fun nx hnx => ?_) ?_
      · k_subL
        exact hnx
      refine Hk.seq_skip (fun nx hnx => ?_) ?_
      · k_subL
        exact hnx
      k_subL
      rw [decide_eq_true rfl]
      exact q
    | tuple ds =>
      cases hx with
      | @tup ax xs _ hsx hax =>
      cases hy with
      | @tup ay ys _ hsy hay =>
      obtain ⟨hle, hall⟩ := ba (show (decide (ds.length ≤ 1000) && ds.all (fits n)) = true from hf)
      have hle := of_decide_eq_true hle
      have lx := Hk.DpAll.len hax
      have ly := Hk.DpAll.len hay
      have tx := Hk.ty_SqT hsx
      have ty := Hk.ty_SqT hsy
      have el : xs.length = ys.length := by omega
      refine Hk.seq_skip (fun nx hnx => ?_) ?_
      · k_subL
        exact hnx
      refine Hk.seq_skip (fun nx hnx => ?_) ?_
      · k_subL
        exact hnx
      refine Hk.seq_skip (fun nx hnx => ?_) ?_
      · k_subL
        exact hnx
      refine Hk.seq_skip (fun nx hnx => ?_) ?_
      · k_subL
        exact hnx
      refine Hk.seq_skip (fun nx hnx => ?_) ?_
      · k_subL
        rw [el, decide_eq_true rfl]
        k_subL
        exact hnx
      refine Hk.tfor_rng (lo := 0) (n := ds.length) (fun i σ' H' => (∃ v, σ' = [some (.ref ax), some (.ref ay), v]) ∧ H' = H) (fun R hR => ?_) ⟨⟨none, rfl⟩, rfl⟩ (fun i σ' H' nx hi hp hnx => ?_) (fun σ' H' hp => ?_)
      · k_subL
        rw [Int.toNat_natCast, ly]
        exact hR
      · obtain ⟨⟨v, rfl⟩, rfl⟩ := hp
        obtain ⟨x', hx1, hx2⟩ := Hk.DpAll.get hax (List.getElem?_eq_getElem hi)
        obtain ⟨y', hy1, hy2⟩ := Hk.DpAll.get hay (List.getElem?_eq_getElem hi)
        have hfd : fits n ds[i] = true := List.all_eq_true.mp hall _ (List.getElem_mem hi)
        have ix : atI xs (0 + (i : Int)) = some x' := by rw [Int.zero_add]; exact atI_nat hx1
        have iy : atI ys (0 + (i : Int)) = some y' := by rw [Int.zero_add]; exact atI_nat hy1
        k_subL
        refine Or.inr (Or.inl ?_)
        k_subL
        refine Or.inr (Or.inl ?_)
        k_subL
        exact hnx _ _ ⟨⟨_, rfl⟩, rfl⟩
      · obtain ⟨⟨v, rfl⟩, rfl⟩ := hp
        k_subL
        exact q
    | list ds =>
      cases hx with
      | @lst ax xs _ hsx hax =>
      cases hy with
      | @lst ay ys _ hsy hay =>
      obtain ⟨hle, hall⟩ := ba (show (decide (ds.length ≤ 1000) && ds.all (fits n)) = true from hf)
      have hle := of_decide_eq_true hle
      have lx := Hk.DpAll.len hax
      have ly := Hk.DpAll.len hay
      have tx := Hk.ty_SqL hsx
      have ty := Hk.ty_SqL hsy
      have el : xs.length = ys.length := by omega
      refine Hk.seq_skip (fun nx hnx => ?_) ?_
      · k_subL
        exact hnx
      refine Hk.seq_skip (fun nx hnx => ?_) ?_
      · k_subL
        exact hnx
      refine Hk.seq_skip (fun nx hnx => ?_) ?_
      · k_subL
        exact hnx
      refine Hk.seq_skip (fun nx hnx => ?_) ?_
      · k_subL
        exact hnx
      refine Hk.seq_skip (fun nx hnx => ?_) ?_
      · k_subL
        rw [el, decide_eq_true rfl]
        k_subL
        exact hnx
      refine Hk.tfor_rng (lo := 0) (n := ds.length) (fun i σ' H' => (∃ v, σ' = [some (.ref ax), some (.ref ay), v]) ∧ H' = H) (fun R hR => ?_) ⟨⟨none, rfl⟩, rfl⟩ (fun i σ' H' nx hi hp hnx => ?_) (fun σ' H' hp => ?_)
      · k_subL
        rw [Int.toNat_natCast, ly]
        exact hR
      · obtain ⟨⟨v, rfl⟩, rfl⟩ := hp
        obtain ⟨x', hx1, hx2⟩ := Hk.DpAll.get hax (List.getElem?_eq_getElem hi)
        obtain ⟨y', hy1, hy2⟩ := Hk.DpAll.get hay (List.getElem?_eq_getElem hi)
        have hfd : fits n ds[i] = true := List.all_eq_true.mp hall _ (List.getElem_mem hi)
        have ix : atI xs (0 + (i : Int)) = some x' := by rw [Int.zero_add]; exact atI_nat hx1
        have iy : atI ys (0 + (i : Int)) = some y' := by rw [Int.zero_add]; exact atI_nat hy1
        k_subL
        refine Or.inl ?_
        k_subL
        refine Or.inl ?_
        k_subL
        exact hnx _ _ ⟨⟨_, rfl⟩, rfl⟩
      · obtain ⟨⟨v, rfl⟩, rfl⟩ := hp
        k_subL
        exact q
    | dict _ => cases hf
theorem ok_alike (T : Txt K mg) : ∀ n, Hk.GOk P w K mg base CX0 n "_law_alike" ["_law_actual", "_law_due"] (sp_alike K n)
  | 0 => by
    obtain ⟨fd, F⟩ := T.f_alike
    refine ⟨T.g__law_alike, fd, F.kp, F.bindsN (fun _ _ _ _ _ _ us hl => match us, hl with | [_, _], _ => rfl), ⟨fun vs H Q E h => ?_, fun A outer s H args us vs Q E _ _ _ _ h => ?_⟩⟩
    · obtain ⟨x, y, d, _, _, _, hf, _⟩ := h
      cases hf
    · obtain ⟨x, y, d, _, _, _, hf, _⟩ := h
      cases hf
  | n + 1 => alike_step T n (ok_alike T n)
end
end K00


set_option Elab.async false
set_option linter.all false
set_option maxRecDepth 100000
set_option maxHeartbeats 4000000
/-! ### readings by themselves -/
open PySem PySem.Spec PyProof.Rows L2 in
local macro_rules | `(tactic| k_allIn) => `(tactic| first | (with_reducible assumption) | exact upd_same | (refine Hk.same_upd (by assumption) _ _ ?_; k_allIn) | (refine (upd_ne (by first | assumption | exact Ne.symm (by assumption))).trans ?_; k_allIn))
open PySem PySem.Spec PyProof.Rows L2 in
local macro_rules | `(tactic| k_memK) => `(tactic| first | (with_reducible exact rfl) | (with_reducible assumption) | exact rfl | exact Hk.lk_hd | k_allIn | exact Or.inl (Or.inl (by k_allIn)) | exact ⟨_, rfl⟩ | exact Or.inl ⟨rfl, _, by assumption⟩ | exact Or.inl ⟨rfl, _, Or.inl (Or.inl (by k_allIn))⟩ | exact (fun _ h => h) | exact ClsV.own _ | exact ClsV.ty _ | exact Or.inl ‹_› | exact Or.inr ‹_› | lcg_src | exact Or.inl ⟨by omega, by omega⟩ | exact Or.inr ⟨by omega, by omega⟩ | exact ⟨by omega, by omega⟩ | exact Nat.le_of_lt (small1000 (by simp)) | exact small1000 (by simp) | exact Nat.le_of_lt (small1000 (by omega)) | exact small1000 (by omega) | omega | assumption | decide +kernel)
local macro_rules | `(tactic| lcg_sub) => `(tactic| (refine And.intro ?_ ?_; k_memK))
local macro_rules | `(tactic| k_subL) => `(tactic| (repeat (first | (apply Exists.intro) | lcg_sub | (refine Or.inl ⟨_, rfl, ?_⟩) | (refine Or.inr ⟨_, rfl, ?_⟩))))
local macro_rules | `(tactic| lcg_src) => `(tactic| first | exact K00.TruthAt.mono (by assumption) (by assumption) | exact K00.TruthAt.mono (by assumption) (Hk.same_upd (by assumption)))
namespace K00
open PySem PySem.Spec PyProof.Rows L2
open He (ga ma ba)
def sp_made (K : PySem.W.Frag) : Sp := fun vs H Q _ => ∃ r t, vs = [.int r, .int t] ∧ R3 r ∧ gives K r H Q
def sp_is_rank (K : PySem.W.Frag) : Sp := fun vs H Q _ => ∃ a r, vs = [.ref a, .int r] ∧ TruthAt K H a r ∧ R3 r ∧ ∀ H', Same H H' → Q (.bl true) H'
def sp_differ : Sp := fun vs H Q _ => ∃ r t, vs = [.int r, .int t] ∧ Q (.int (differ r t)) H
def sp_pair (K : PySem.W.Frag) : Sp := fun vs H Q _ => ∃ a b r t, vs = [.ref a, .ref b, .int r, .int t] ∧ TruthAt K H a r ∧ TruthAt K H b t ∧ R3 r ∧ R3 t ∧ ∀ H', Same H H' → Q (.bl true) H'
section
variable {P : Program} {w : World} {K : PySem.W.Frag} {mg : Str → Option Value} {base : Heap}
theorem rank_meaning {r : Int} (h : R3 r) : rankOf (meaning r) = some r := by
  rcases h with rfl | rfl | rfl <;> rfl
theorem wordS_inj {r t : Int} (h : R3 r) (k : R3 t) (e : wordS r = wordS t) : r = t := by
  rcases h with rfl | rfl | rfl <;> rcases k with rfl | rfl | rfl <;> first | rfl | exact absurd e (by decide +kernel)
theorem gives.upd {r : Int} {H : Hp} {Q : VK} {p : Addr} {o : HO} (q : gives K r H Q) (n : H p = none) : gives K r (upd H p o) Q := fun a H' s t => q a H' (fun x o e => s _ _ (Hk.same_upd n _ _ e)) t
theorem ok_differ (T : Txt K mg) : Hk.GOk P w K mg base CX0 1 "_law_differ" ["_law_first", "_law_second"] (sp_differ) := by
  refine Hk.mkG T.g__law_differ T.f_differ (fun _ _ _ _ _ _ us hl => match us, hl with | [_, _], _ => rfl) sc_differ (fun vs H Q E h => ?_) (fun cdv A outer s H vs Q E hr h => ?_)
  · obtain ⟨r, t, rfl, _⟩ := h
    rfl
  · obtain ⟨r, t, rfl, q⟩ := h
    have e : ∀ v, v = V.int (differ r t) → Q v H := fun v z => z ▸ q
    refine ⟨_, (pss_cons (ps_if (PW.pt (pw_or (pt_cmpR op_eq (pv 0) pe_int (nomark _)) (pw_or1 (pt_cmpR op_eq (pv 1) pe_int (nomark _)))))
        (pss_one (ps_ret pe_int))
        pss_nil)
      (pss_one (ps_ret (pe_op op_mul pe_int (pe_callTy call_int1 (by rfl) T.z_int (by decide +kernel) (pa_cons (pe_cmpR op_ne (pv 0) (pv 1) (nomark _)) pa_nil)))))), ?_⟩
    unfold differ at e
    k_subL
    rw [Hk.dI]
    by_cases e1 : r = 1
    · rw [decide_eq_true e1]
      k_subL
      refine e _ ?_
      rw [if_pos (Or.inl e1)]
    · rw [decide_eq_false e1]
      k_subL
      rw [Hk.dI]
      by_cases e2 : t = 1
      · rw [decide_eq_true e2]
        k_subL
        refine e _ ?_
        rw [if_pos (Or.inr e2)]
      · rw [decide_eq_false e2]
        k_subL
        refine e _ ?_
        by_cases e3 : r = t
        · simp [e1, e2, e3]
        · simp [e1, e2, e3]
theorem ok_made (T : Txt K mg) : Hk.GOk P w K mg base CX0 4 "_law_made" ["_law_rank", "_law_way"] (sp_made K) := by
  refine Hk.mkG T.g__law_made T.f_made (fun _ _ _ _ _ _ us hl => match us, hl with | [_, _], _ => rfl) sc_made (fun vs H Q E h => ?_) (fun cdv A outer s H vs Q E hr h => ?_)
  · obtain ⟨r, t, rfl, _⟩ := h
    rfl
  · obtain ⟨r, t, rfl, h3, q⟩ := h
    have m1 := at3m h3
    have m2 := at3w h3
    have m3 := rank_meaning h3
    refine ⟨_, (pss_cons (ps_if (pt_cmpR op_eq (pv 1) pe_int (nomark _))
        (pss_one (ps_ret (Hk.pe_mk T.mk_Truth (ok_Truth_init T) T.g_Truth (hr.mono (by decide)) pass0 (pa_cons (pv 0) pa_nil))))
        pss_nil)
      (pss_cons (ps_if (pt_cmpR op_eq (pv 1) pe_int (nomark _))
        (pss_one (ps_ret (Hk.pe_s (ok_Truth_of T) T.r_Truth T.st_Truth_of (hr.mono (by decide)) pass0 (pe_glob (v := .ref (ga K "Truth")) (by rfl) T.g_Truth rfl) (pa_cons (pe_ix ix_tup (pe_tup (pa_cons pe_bl (pa_cons pe_non (pa_cons pe_bl pa_nil)))) (pv 0) (fun _ _ => rfl)) pa_nil))))
        pss_nil)
      (pss_one (ps_ret (Hk.pe_s (ok_Truth_from_word T) T.r_Truth T.st_Truth_from_word (hr.mono (by decide)) passL (pe_glob (v := .ref (ga K "Truth")) (by rfl) T.g_Truth rfl) (pa_cons (pe_ix ix_tup (pe_tup (pa_cons pe_str (pa_cons pe_str (pa_cons pe_str pa_nil)))) (pv 0) (fun _ _ => rfl)) pa_nil)))))), ?_⟩
    k_subL
    rw [Hk.dI]
    refine ite2 (fun e => ?_) (fun e => ?_)
    · k_subL
      exact mk_truth q
    k_subL
    rw [Hk.dI]
    refine ite2 (fun e2 => ?_) (fun e2 => ?_)
    · k_subL
      intro p np
      have ht : SqT K (upd H p (.tup [V.bl false, V.non, V.bl true])) p [V.bl false, V.non, V.bl true] := .inl (.inl upd_same)
      k_subL
      exact gives.upd q np
    · k_subL
      intro p np
      have ht : SqT K (upd H p (.tup [V.str "false", V.str "unknown", V.str "true"])) p [V.str "false", V.str "unknown", V.str "true"] := .inl (.inl upd_same)
      k_subL
      refine ⟨fun t k z => ?_, fun z => (z r h3 rfl).elim⟩
      obtain rfl := wordS_inj h3 k z
      exact gives.upd q np
theorem ok_is_rank (T : Txt K mg) : Hk.GOk P w K mg base CX0 4 "_law_is_rank" ["_law_actual", "_law_rank"] (sp_is_rank K) := by
  refine Hk.mkG T.g__law_is_rank T.f_is_rank (fun _ _ _ _ _ _ us hl => match us, hl with | [_, _], _ => rfl) sc_is_rank (fun vs H Q E h => ?_) (fun cdv A outer s H vs Q E hr h => ?_)
  · obtain ⟨a, r, rfl, _⟩ := h
    rfl
  · obtain ⟨a, r, rfl, ha', h3, q⟩ := h
    obtain ⟨dx, ha⟩ := id ha'
    have hc := T.cl_Truth
    have hn := T.n_Truth_rank
    have hi := T.i_Truth.ty ha
    have hk := T.kt_Truth_Truth
    have m1 := at3m h3
    have m2 := at3w h3
    refine ⟨_, (pss_cons (ps_if (pt_not (pt_val (pe_callB call_isi (by rfl) T.z_isinstance (by decide +kernel) (pa_cons (pv 0) (pa_cons (pe_glob (v := .ref (ga K "Truth")) (by rfl) T.g_Truth rfl) pa_nil)))))
        (pss_one (ps_ret pe_bl))
        pss_nil)
      (pss_cons (ps_set (i := 2) sc_is_rank.nd rfl (.inl rfl) (pe_tup (pa_cons (pe_fld (pv 0) rfl) (pa_cons (Hk.pe_p (ok_Truth_value T) T.cl_Truth T.p_Truth_value (hr.mono (by decide)) pass0 (pv 0)) (pa_cons (Hk.pe_p (ok_Truth_word T) T.cl_Truth T.p_Truth_word (hr.mono (by decide)) pass0 (pv 0)) (pa_cons (pe_callTy (Hk.call_bool (ok_Truth_bool T) T.m_Truth_bool (hr.mono (by decide)) pass0) (by rfl) T.z_bool (by decide +kernel) (pa_cons (pv 0) pa_nil)) pa_nil))))))
      (pss_one (ps_ret (Hk.pe_g (ok_alike T 2) (hr.mono (by decide)) pass0 (pa_cons (pv 2) (pa_cons (pe_tup (pa_cons (pv 1) (pa_cons (pe_ix ix_tup (pe_tup (pa_cons pe_bl (pa_cons pe_non (pa_cons pe_bl pa_nil)))) (pv 1) (fun _ _ => rfl)) (pa_cons (pe_ix ix_tup (pe_tup (pa_cons pe_str (pa_cons pe_str (pa_cons pe_str pa_nil)))) (pv 1) (fun _ _ => rfl)) (pa_cons (pe_cmpR op_eq (pv 1) pe_int (nomark _)) pa_nil))))) pa_nil))))))), ?_⟩
    k_subL
    intro p1 n1
    k_subL
    intro p2 n2
    have hs2 : SqT K (upd (upd H p1 (.tup [.int r, meaning r, .str (wordS r), .bl (decide (r = 2))])) p2 (.tup [V.bl false, V.non, V.bl true])) p2 [V.bl false, V.non, V.bl true] := .inl (.inl upd_same)
    k_subL
    intro p3 n3
    have hs3 : SqT K (upd (upd (upd H p1 (.tup [.int r, meaning r, .str (wordS r), .bl (decide (r = 2))])) p2 (.tup [V.bl false, V.non, V.bl true])) p3 (.tup [V.str "false", V.str "unknown", V.str "true"])) p3 [V.str "false", V.str "unknown", V.str "true"] := .inl (.inl upd_same)
    k_subL
    rw [Hk.dI]
    intro p4 n4
    have sm := (Hk.same_upd (o := .tup [.int r, meaning r, .str (wordS r), .bl (decide (r = 2))]) n1).trans ((Hk.same_upd (o := .tup [V.bl false, V.non, V.bl true]) n2).trans ((Hk.same_upd (o := .tup [V.str "false", V.str "unknown", V.str "true"]) n3).trans (Hk.same_upd (o := .tup [.int r, meaning r, .str (wordS r), .bl (decide (r = 2))]) n4)))
    have e1 : ∃ dm, Dp K H (meaning r) dm ∧ fits 1 dm = true ∧ ∀ H', Dp K H' (meaning r) dm := by
      rcases h3 with rfl | rfl | rfl
      · exact ⟨.bool false, .bl _, rfl, fun _ => .bl _⟩
      · exact ⟨.none, .non, rfl, fun _ => .non⟩
      · exact ⟨.bool true, .bl _, rfl, fun _ => .bl _⟩
    obtain ⟨dm, _, f1, dm1⟩ := e1
    refine ⟨_, _, .tuple [.int r, dm, .str (wordS r), .bool (decide (r = 2))], rfl, .tup (.inl (.inl (by k_allIn))) (.cons (.int _) (.cons (dm1 _) (.cons (.str _) (.cons (.bl _) .nil)))), .tup (.inl (.inl upd_same)) (.cons (.int _) (.cons (dm1 _) (.cons (.str _) (.cons (.bl _) .nil)))), ?_, q _ sm⟩
    simp [fits, f1]
end
end K00


set_option Elab.async false
set_option linter.all false
set_option maxRecDepth 100000
set_option maxHeartbeats 4000000
/-! ### readings by themselves -/
open PySem PySem.Spec PyProof.Rows L2 in
local macro_rules | `(tactic| k_allIn) => `(tactic| first | (with_reducible assumption) | exact upd_same | (refine Hk.same_upd (by assumption) _ _ ?_; k_allIn) | (refine (upd_ne (by first | assumption | exact Ne.symm (by assumption))).trans ?_; k_allIn))
open PySem PySem.Spec PyProof.Rows L2 in
local macro_rules | `(tactic| k_memK) => `(tactic| first | (with_reducible exact rfl) | (with_reducible assumption) | exact rfl | exact Hk.lk_hd | k_allIn | exact Or.inl (Or.inl (by k_allIn)) | exact ⟨_, rfl⟩ | exact Or.inl ⟨rfl, _, by assumption⟩ | exact Or.inl ⟨rfl, _, Or.inl (Or.inl (by k_allIn))⟩ | exact (fun _ h => h) | exact ClsV.own _ | exact ClsV.ty _ | exact Or.inl ‹_› | exact Or.inr ‹_› | lcg_src | exact Or.inl ⟨by omega, by omega⟩ | exact Or.inr ⟨by omega, by omega⟩ | exact ⟨by omega, by omega⟩ | exact Nat.le_of_lt (small1000 (by simp)) | exact small1000 (by simp) | exact Nat.le_of_lt (small1000 (by omega)) | exact small1000 (by omega) | omega | assumption | decide +kernel)
local macro_rules | `(tactic| lcg_sub) => `(tactic| (refine And.intro ?_ ?_; k_memK))
local macro_rules | `(tactic| k_subL) => `(tactic| (repeat (first | (apply Exists.intro) | lcg_sub | (refine Or.inl ⟨_, rfl, ?_⟩) | (refine Or.inr ⟨_, rfl, ?_⟩))))
local macro_rules | `(tactic| lcg_src) => `(tactic| first | exact K00.TruthAt.mono (by assumption) (by assumption) | exact K00.TruthAt.mono (by assumption) (Hk.same_upd (by assumption)))
namespace K00
open PySem PySem.Spec PyProof.Rows L2
open He (ga ma ba)
section
variable {P : Program} {w : World} {K : PySem.W.Frag} {mg : Str → Option Value} {base : Heap}
theorem r3_min {r t : Int} (h : R3 r) (k : R3 t) : R3 (if t < r then t else r) := by
  by_cases e : t < r
  · rw [if_pos e]; exact k
  · rw [if_neg e]; exact h
theorem r3_max {r t : Int} (h : R3 r) (k : R3 t) : R3 (if t > r then t else r) := by
  by_cases e : t > r
  · rw [if_pos e]; exact k
  · rw [if_neg e]; exact h
theorem r3_differ {r t : Int} : R3 (differ r t) := by
  unfold differ
  by_cases e : r = 1 ∨ t = 1
  · rw [if_pos e]; exact .inr (.inl rfl)
  · rw [if_neg e]
    by_cases e2 : r = t
    · rw [if_pos e2]; exact .inl rfl
    · rw [if_neg e2]; exact .inr (.inr rfl)
theorem r3_not {r : Int} (h : R3 r) : R3 (2 - r) := by
  rcases h with rfl | rfl | rfl
  · exact .inr (.inr rfl)
  · exact .inr (.inl rfl)
  · exact .inl rfl
theorem ok_pair (T : Txt K mg) : Hk.GOk P w K mg base CX0 6 "_law_pair" ["_law_one", "_law_two", "_law_first", "_law_second"] (sp_pair K) := by
  refine Hk.mkG T.g__law_pair T.f_pair (fun _ _ _ _ _ _ us hl => match us, hl with | [_, _, _, _], _ => rfl) sc_pair (fun vs H Q E h => ?_) (fun cdv A outer s H vs Q E hr h => ?_)
  · obtain ⟨a, b, r, t, rfl, _⟩ := h
    rfl
  · obtain ⟨a, b, r, t, rfl, ha, hb, h3, k3, q⟩ := h
    have x1 := r3_min h3 k3
    have x2 := r3_max h3 k3
    have x3 := @r3_differ r t
    have x4 := r3_not h3
    obtain ⟨dx, ea⟩ := id ha
    obtain ⟨dy, eb⟩ := id hb
    refine ⟨_, (pss_cons (ps_if (PW.pt (pw_or (pt_not (pt_val (Hk.pe_g (ok_is_rank T) (hr.mono (by decide)) pass0 (pa_cons (pe_op (Hk.op_bin (ok_Truth_and T) T.sf_Truth T.m_Truth_and (hr.mono (by decide)) pass0) (pv 0) (pv 1)) (pa_cons (pe_callB (call_min2 rfl) (by rfl) T.z_min (by decide +kernel) (pa_cons (pv 2) (pa_cons (pv 3) pa_nil))) pa_nil))))) (pw_or1 (pt_not (pt_val (Hk.pe_g (ok_is_rank T) (hr.mono (by decide)) pass0 (pa_cons (pe_op (Hk.op_bin (ok_Truth_or T) T.sf_Truth T.m_Truth_or (hr.mono (by decide)) pass0) (pv 0) (pv 1)) (pa_cons (pe_callB (call_max2 rfl) (by rfl) T.z_max (by decide +kernel) (pa_cons (pv 2) (pa_cons (pv 3) pa_nil))) pa_nil))))))))
        (pss_one (ps_ret pe_bl))
        pss_nil)
      (pss_cons (ps_if (PW.pt (pw_or (pt_not (pt_val (Hk.pe_g (ok_is_rank T) (hr.mono (by decide)) pass0 (pa_cons (pe_op (Hk.op_bin (ok_Truth_xor T) T.sf_Truth T.m_Truth_xor (hr.mono (by decide)) pass0) (pv 0) (pv 1)) (pa_cons (Hk.pe_g (ok_differ T) (hr.mono (by decide)) pass0 (pa_cons (pv 2) (pa_cons (pv 3) pa_nil))) pa_nil))))) (pw_or1 (pt_not (pt_val (Hk.pe_g (ok_is_rank T) (hr.mono (by decide)) pass0 (pa_cons (pe_un (Hk.un_inv (ok_Truth_invert T) T.m_Truth_invert (hr.mono (by decide)) pass0) (pv 0)) (pa_cons (pe_op op_sub pe_int (pv 2)) pa_nil))))))))
        (pss_one (ps_ret pe_bl))
        pss_nil)
      (pss_cons (ps_set (i := 4) sc_pair.nd rfl (.inl rfl) (pe_tup (pa_cons (pe_cmpR (Hk.op_cmp (ok_Truth_eq T) (fun _ _ => rfl) T.m_Truth_eq (hr.mono (by decide)) pass0) (pv 0) (pv 1) (nomark _)) (pa_cons (pe_cmpR (Hk.op_cmp (ok_Truth_ne T) (fun _ _ => rfl) T.m_Truth_ne (hr.mono (by decide)) pass0) (pv 0) (pv 1) (nomark _)) (pa_cons (pe_cmpR (Hk.op_cmp (ok_Truth_lt T) (fun _ _ => rfl) T.m_Truth_lt (hr.mono (by decide)) pass0) (pv 0) (pv 1) (nomark _)) (pa_cons (pe_cmpR (Hk.op_cmp (ok_Truth_le T) (fun _ _ => rfl) T.m_Truth_le (hr.mono (by decide)) pass0) (pv 0) (pv 1) (nomark _)) pa_nil))))))
      (pss_one (ps_ret (Hk.pe_g (ok_alike T 2) (hr.mono (by decide)) pass0 (pa_cons (pv 4) (pa_cons (pe_tup (pa_cons (pe_cmpR op_eq (pv 2) (pv 3) (nomark _)) (pa_cons (pe_cmpR op_ne (pv 2) (pv 3) (nomark _)) (pa_cons (pe_cmpR op_lt (pv 2) (pv 3) (nomark _)) (pa_cons (pe_cmpR op_le (pv 2) (pv 3) (nomark _)) pa_nil))))) pa_nil)))))))), ?_⟩
    k_subL
    intro c1 hc1
    k_subL
    intro H1 s1
    have ea1 := s1 _ _ ea
    have eb1 := s1 _ _ eb
    have ha1 := ha.mono s1
    have hb1 := hb.mono s1
    k_subL
    intro c2 hc2
    k_subL
    intro H2 s2
    have ea2 := s2 _ _ ea1
    have eb2 := s2 _ _ eb1
    have ha2 := ha1.mono s2
    have hb2 := hb1.mono s2
    k_subL
    intro c3 H3 s3 hc3
    have ea3 := s3 _ _ ea2
    have eb3 := s3 _ _ eb2
    have ha3 := ha2.mono s3
    have hb3 := hb2.mono s3
    k_subL
    intro H4 s4
    have ea4 := s4 _ _ ea3
    have eb4 := s4 _ _ eb3
    have ha4 := ha3.mono s4
    have hb4 := hb3.mono s4
    k_subL
    intro c5 H5 s5 hc5
    have ea5 := s5 _ _ ea4
    have eb5 := s5 _ _ eb4
    have ha5 := ha4.mono s5
    have hb5 := hb4.mono s5
    k_subL
    intro H6 s6
    have ea6 := s6 _ _ ea5
    have eb6 := s6 _ _ eb5
    have ha6 := ha5.mono s6
    have hb6 := hb5.mono s6
    k_subL
    intro p1 n1
    k_subL
    simp only [V.int.injEq]
    intro p2 n2
    have sm := (((((s1.trans s2).trans s3).trans s4).trans s5).trans s6).trans ((Hk.same_upd (o := .tup [.bl (decide (r = t)), .bl (!decide (r = t)), .bl (decide (r < t)), .bl (decide (r ≤ t))]) n1).trans (Hk.same_upd (o := .tup [.bl (decide (r = t)), .bl (!decide (r = t)), .bl (decide (r < t)), .bl (decide (r ≤ t))]) n2))
    refine ⟨_, _, .tuple [.bool (decide (r = t)), .bool (!decide (r = t)), .bool (decide (r < t)), .bool (decide (r ≤ t))], rfl, .tup (.inl (.inl (by k_allIn))) (.cons (.bl _) (.cons (.bl _) (.cons (.bl _) (.cons (.bl _) .nil)))), .tup (.inl (.inl upd_same)) (.cons (.bl _) (.cons (.bl _) (.cons (.bl _) (.cons (.bl _) .nil)))), ?_, q _ sm⟩
    simp [fits]
end
end K00


set_option Elab.async false
set_option linter.all false
set_option maxRecDepth 100000
set_option maxHeartbeats 4000000
/-! ### readings by themselves -/
open PySem PySem.Spec PyProof.Rows L2 in
local macro_rules | `(tactic| k_allIn) => `(tactic| first | (with_reducible assumption) | exact upd_same | (refine Hk.same_upd (by assumption) _ _ ?_; k_allIn) | (refine (upd_ne (by first | assumption | exact Ne.symm (by assumption))).trans ?_; k_allIn))
open PySem PySem.Spec PyProof.Rows L2 in
local macro_rules | `(tactic| k_memK) => `(tactic| first | (with_reducible exact rfl) | (with_reducible assumption) | exact rfl | exact Hk.lk_hd | k_allIn | exact Or.inl (Or.inl (by k_allIn)) | exact ⟨_, rfl⟩ | exact Or.inl ⟨rfl, _, by assumption⟩ | exact Or.inl ⟨rfl, _, Or.inl (Or.inl (by k_allIn))⟩ | exact (fun _ h => h) | exact ClsV.own _ | exact ClsV.ty _ | exact Or.inl ‹_› | exact Or.inr ‹_› | lcg_src | exact Or.inl ⟨by omega, by omega⟩ | exact Or.inr ⟨by omega, by omega⟩ | exact ⟨by omega, by omega⟩ | exact Nat.le_of_lt (small1000 (by simp)) | exact small1000 (by simp) | exact Nat.le_of_lt (small1000 (by omega)) | exact small1000 (by omega) | omega | assumption | decide +kernel)
local macro_rules | `(tactic| lcg_sub) => `(tactic| (refine And.intro ?_ ?_; k_memK))
local macro_rules | `(tactic| k_subL) => `(tactic| (repeat (first | (apply Exists.intro) | lcg_sub | (refine Or.inl ⟨_, rfl, ?_⟩) | (refine Or.inr ⟨_, rfl, ?_⟩))))
namespace K00
open PySem PySem.Spec PyProof.Rows L2
open He (ga ma ba)
def sp_word : Sp := fun vs H Q _ => ∃ b l, vs = [.ref b] ∧ BoxAt H b l ∧ ∀ z H', BoxAt H' b l → SameBut b H H' → Q (.str z) H'
theorem letters : ("abcdefghijklmnopqrstuvwxyz" : Str).cps.toList.length = 26 := by decide +kernel
theorem letters_le : ("abcdefghijklmnopqrstuvwxyz" : Str).length ≤ sizeLine := by decide +kernel
theorem word3 {k : Nat} {v : V} (h : [V.str "false", V.str "unknown", V.str "true"][k]? = some v) : ∃ z : Str, v = .str z ∧ 0 < z.length ∧ z.length ≤ 7 := by
  match k, h with
  | 0, h => cases h; exact ⟨_, rfl, by decide +kernel, by decide +kernel⟩
  | 1, h => cases h; exact ⟨_, rfl, by decide +kernel, by decide +kernel⟩
  | 2, h => cases h; exact ⟨_, rfl, by decide +kernel, by decide +kernel⟩
  | k + 3, h => simp at h
theorem len1 (c : Nat) : (⟨#[c]⟩ : Str).length = 1 := rfl
theorem lenA (a b : Str) : (a ++ b).length = a.length + b.length := by
  show (a.cps ++ b.cps).size = _
  rw [Array.size_append]
  rfl
theorem one_le : (" " : Str).length = 1 := by decide +kernel
section
variable {P : Program} {w : World} {K : PySem.W.Frag} {mg : Str → Option Value} {base : Heap}
theorem ok_word (T : Txt K mg) : Hk.GOk P w K mg base CX0 3 "_law_word" ["_law_box_here"] (sp_word) := by
  refine Hk.mkG T.g__law_word T.f_word (fun _ _ _ _ _ _ us hl => match us, hl with | [_], _ => rfl) sc_word (fun vs H Q E h => ?_) (fun cdv A outer s H vs Q E hr h => ?_)
  · obtain ⟨b, l, rfl, _⟩ := h
    rfl
  · obtain ⟨b, l, rfl, hb, q⟩ := h
    refine ⟨_, (pss_cons (ps_set (i := 1) sc_word.nd rfl (.inl rfl) pe_str)
      (pss_cons (ps_set (i := 2) sc_word.nd rfl (.inl rfl) (Hk.pe_g (ok_pick T) (hr.mono (by decide)) pass0 (pa_cons (pv 0) (pa_cons (pe_lst (pa_cons pe_str (pa_cons pe_str (pa_cons pe_str pa_nil)))) pa_nil))))
      (pss_cons (ps_set (i := 3) sc_word.nd rfl (.inl rfl) (Hk.pe_g (ok_draw T) (hr.mono (by decide)) pass0 (pa_cons (pv 0) (pa_cons pe_int pa_nil))))
      (pss_cons (ps_set (i := 4) sc_word.nd rfl (.inl rfl) (pe_ix ix_str (pv 1) (Hk.pe_g (ok_draw T) (hr.mono (by decide)) pass0 (pa_cons (pv 0) (pa_cons pe_int pa_nil))) (fun _ _ => rfl)))
      (pss_cons (ps_set (i := 5) sc_word.nd rfl (.inl rfl) (Hk.pe_g (ok_draw T) (hr.mono (by decide)) pass0 (pa_cons (pv 0) (pa_cons (pe_callB call_len_str (by rfl) T.z_len (by decide +kernel) (pa_cons (pv 2) pa_nil)) pa_nil))))
      (pss_cons (ps_if (pt_cmpR op_lt (pv 3) pe_int (nomark _))
        (pss_one (ps_ret (pv 2)))
        pss_nil)
      (pss_cons (ps_if (pt_cmpR op_eq (pv 3) pe_int (nomark _))
        (pss_one (ps_ret (pe_upper (pv 2))))
        pss_nil)
      (pss_cons (ps_if (pt_cmpR op_eq (pv 3) pe_int (nomark _))
        (pss_one (ps_ret (pe_op op_add_str (pv 2) pe_str)))
        pss_nil)
      (pss_cons (ps_if (pt_cmpR op_eq (pv 3) pe_int (nomark _))
        (pss_one (ps_ret (pe_op op_add_str pe_str (pv 2))))
        pss_nil)
      (pss_cons (ps_if (pt_cmpR op_eq (pv 3) pe_int (nomark _))
        (pss_one (ps_ret (pe_op op_add_str (pe_slice sl_str (pv 2) po_none (po_some (pv 5))) (pe_slice sl_str (pv 2) (po_some (pe_op op_add (pv 5) pe_int)) po_none))))
        pss_nil)
      (pss_cons (ps_if (pt_cmpR op_eq (pv 3) pe_int (nomark _))
        (pss_one (ps_ret (pe_op op_add_str (pe_op op_add_str (pe_slice sl_str (pv 2) po_none (po_some (pv 5))) (pv 4)) (pe_slice sl_str (pv 2) (po_some (pv 5)) po_none))))
        pss_nil)
      (pss_cons (ps_if (pt_cmpR op_eq (pv 3) pe_int (nomark _))
        (pss_one (ps_ret (pe_op op_add_str (pe_op op_add_str (pe_slice sl_str (pv 2) po_none (po_some (pv 5))) (pv 4)) (pe_slice sl_str (pv 2) (po_some (pe_op op_add (pv 5) pe_int)) po_none))))
        pss_nil)
      (pss_cons (ps_set (i := 6) sc_word.nd rfl (.inl rfl) pe_str)
      (pss_cons (ps_for PassesOwn.never rfl (pi_range1 (by rfl) T.z_range (pa_cons (pv 5) pa_nil)) (pg_name (i := 7) sc_word.nd rfl (.inl rfl))
        (pss_one (ps_set (i := 6) sc_word.nd rfl (.inl rfl) (pe_op op_add_str (pv 6) (pe_ix ix_str (pv 1) (Hk.pe_g (ok_draw T) (hr.mono (by decide)) pass0 (pa_cons (pv 0) (pa_cons pe_int pa_nil))) (fun _ _ => rfl))))))
      (pss_one (ps_ret (pv 6))))))))))))))))), ?_⟩
    k_subL
    have hL := letters
    have hlt := letters_le
    generalize ("abcdefghijklmnopqrstuvwxyz" : Str) = L at hL hlt ⊢
    intro p np
    have hb0 := hb.upd (o := .lst [.str "false", .str "unknown", .str "true"]) np
    have hne := hb.ne np
    have s0 := Same.but (Hk.same_upd (o := .lst [.str "false", .str "unknown", .str "true"]) np) b
    k_subL
    intro k v H1 hk hb1 s1'
    have s1 := s0.trans s1'
    obtain ⟨z, rfl, z0, z7⟩ := word3 hk
    k_subL
    intro kind H2 _ _ hb2 s2'
    have s2 := s1.trans s2'
    k_subL
    intro k2 H3 k20 k21 hb3 s3'
    have s3 := s2.trans s3'
    obtain ⟨c, hc, _⟩ := Hk.atI_of (xs := L.cps.toList) k20 (by rw [hL]; exact k21)
    have lc := len1 c
    have zn0 : (0 : Int) < (z.length : Int) := by omega
    have zn1 : (z.length : Int) < 1000000 := by omega
    have zl : z.length ≤ sizeLine := Nat.le_of_lt (small1000 (by omega))
    have zi7 : (z.length : Int) ≤ 7 := by omega
    clear z7 z0
    have hlt2 := hlt
    k_subL
    intro at_ H4 a0 a1 hb4 s4'
    have s4 := s3.trans s4'
    have zu : z.length ≤ 5592405 := by omega
    have c1 := fun lo hi => cutS_length z lo hi
    have o1 := one_le
    k_subL
    refine ite2 (fun _ => ?_) (fun _ => ?_)
    · k_subL
      exact q _ _ hb4 s4
    k_subL
    rw [Hk.dI]
    refine ite2 (fun _ => ?_) (fun _ => ?_)
    · k_subL
      exact q _ _ hb4 s4
    k_subL
    rw [Hk.dI]
    refine ite2 (fun _ => ?_) (fun _ => ?_)
    · k_subL
      exact q _ _ hb4 s4
    k_subL
    rw [Hk.dI]
    refine ite2 (fun _ => ?_) (fun _ => ?_)
    · k_subL
      exact q _ _ hb4 s4
    k_subL
    rw [Hk.dI]
    refine ite2 (fun _ => ?_) (fun _ => ?_)
    · have b1 := c1 none (some at_)
      have b2 := c1 (some at_) none
      have b3 := c1 (some (at_ + 1)) none
      have b4 := lenA (cutS z none (some at_)) ⟨#[c]⟩
      k_subL
      exact q _ _ hb4 s4
    k_subL
    rw [Hk.dI]
    refine ite2 (fun _ => ?_) (fun _ => ?_)
    · have b1 := c1 none (some at_)
      have b2 := c1 (some at_) none
      have b3 := c1 (some (at_ + 1)) none
      have b4 := lenA (cutS z none (some at_)) ⟨#[c]⟩
      k_subL
      exact q _ _ hb4 s4
    k_subL
    rw [Hk.dI]
    refine ite2 (fun _ => ?_) (fun _ => ?_)
    · have b1 := c1 none (some at_)
      have b2 := c1 (some at_) none
      have b3 := c1 (some (at_ + 1)) none
      have b4 := lenA (cutS z none (some at_)) ⟨#[c]⟩
      k_subL
      exact q _ _ hb4 s4
    refine Hk.seq_skip (fun nx hnx => hnx) ?_
    refine Hk.seq_rest (fun σ' H' => σ' = [some (.ref b), some (.str L), some (.str z), some (.int kind), some (.str ⟨#[c]⟩), some (.int at_), some (.str ""), none] ∧ H' = H4) (fun nx hnx => hnx _ _ ⟨rfl, rfl⟩) ?_
    rintro _ _ ⟨rfl, rfl⟩
    refine Hk.tfor_rng (lo := 0) (n := at_.toNat) (fun i σ' H' => ∃ (y : Str) (v : Option V), σ' = [some (.ref b), some (.str L), some (.str z), some (.int kind), some (.str ⟨#[c]⟩), some (.int at_), some (.str y), v] ∧ y.length ≤ i ∧ BoxAt H' b l ∧ SameBut b H H') (fun R hR => ?_) ⟨"", none, rfl, Nat.le_refl _, hb4, s4⟩ (fun i σ' H' nx hi hp hnx => ?_) (fun σ' H' hp => ?_)
    · have r1 : -(2 ^ 62 : Int) ≤ at_ := by omega
      have r2 : at_ < (2 ^ 62 : Int) := by omega
      k_subL
      exact hR
    · obtain ⟨y, v, rfl, hy, hb5, s5⟩ := hp
      k_subL
      intro k5 H6 k50 k51 hb6 s6'
      obtain ⟨c5, hc5, _⟩ := Hk.atI_of (xs := L.cps.toList) k50 (by rw [hL]; exact k51)
      have lc5 := len1 c5
      have l5 : y.length + (⟨#[c5]⟩ : Str).length ≤ sizeLine := Nat.le_of_lt (small1000 (by omega))
      have l6 := lenA y ⟨#[c5]⟩
      have hlt3 := hlt
      k_subL
      refine hnx _ _ ⟨_, _, rfl, ?_, hb6, s5.trans s6'⟩
      omega
    · obtain ⟨y, v, rfl, hy, hb5, s5⟩ := hp
      k_subL
      exact q _ _ hb5 s5
end
end K00


set_option Elab.async false
set_option linter.all false
set_option maxRecDepth 100000
set_option maxHeartbeats 4000000
/-! ### readings by themselves -/
open PySem PySem.Spec PyProof.Rows L2 in
local macro_rules | `(tactic| k_allIn) => `(tactic| first | (with_reducible assumption) | exact upd_same | (refine Hk.same_upd (by assumption) _ _ ?_; k_allIn) | (refine (upd_ne (by first | assumption | exact Ne.symm (by assumption))).trans ?_; k_allIn))
open PySem PySem.Spec PyProof.Rows L2 in
local macro_rules | `(tactic| k_memK) => `(tactic| first | (with_reducible exact rfl) | (with_reducible assumption) | exact rfl | exact Hk.lk_hd | k_allIn | exact Or.inl (Or.inl (by k_allIn)) | exact ⟨_, rfl⟩ | exact Or.inl ⟨rfl, _, by assumption⟩ | exact Or.inl ⟨rfl, _, Or.inl (Or.inl (by k_allIn))⟩ | exact (fun _ h => h) | exact ClsV.own _ | exact ClsV.ty _ | exact Or.inl ‹_› | exact Or.inr ‹_› | lcg_src | exact Or.inl ⟨by omega, by omega⟩ | exact Or.inr ⟨by omega, by omega⟩ | exact ⟨by omega, by omega⟩ | exact Nat.le_of_lt (small1000 (by simp)) | exact small1000 (by simp) | exact Nat.le_of_lt (small1000 (by omega)) | exact small1000 (by omega) | omega | assumption | decide +kernel)
local macro_rules | `(tactic| lcg_sub) => `(tactic| (refine And.intro ?_ ?_; k_memK))
local macro_rules | `(tactic| k_subL) => `(tactic| (repeat (first | (apply Exists.intro) | lcg_sub | (refine Or.inl ⟨_, rfl, ?_⟩) | (refine Or.inr ⟨_, rfl, ?_⟩))))
namespace K00
open PySem PySem.Spec PyProof.Rows L2
open He (ga ma ba)
def sp_read (K : PySem.W.Frag) : Sp := fun vs H Q _ => ∃ z, vs = [.str z] ∧ ∀ H', Same H H' → Q (.bl true) H'
section
variable {P : Program} {w : World} {K : PySem.W.Frag} {mg : Str → Option Value} {base : Heap}
theorem inV_no {z : Str} (h : ∀ r, R3 r → z ≠ wordS r) : inV (.str z) [V.str "false", V.str "unknown", V.str "true"] = false := by
  cases e : inV (.str z) [V.str "false", V.str "unknown", V.str "true"] with
  | false => rfl
  | true =>
    obtain ⟨r, h3, rfl⟩ := inV_word e
    exact absurd rfl (h r h3)
theorem word_idx {r : Int} (h : R3 r) : ∃ (j : Nat) (y : V), [V.str "false", V.str "unknown", V.str "true"][j]? = some y ∧ eqV y (.str (wordS r)) = true ∧
    (∀ (m : Nat) (z' : V), m < j → [V.str "false", V.str "unknown", V.str "true"][m]? = some z' → eqV z' (.str (wordS r)) = false) ∧ (j : Int) = r := by
  rcases h with rfl | rfl | rfl
  · exact ⟨0, _, rfl, by decide +kernel, fun m _ hm => absurd hm (Nat.not_lt_zero m), rfl⟩
  · refine ⟨1, _, rfl, by decide +kernel, fun m z' hm e => ?_, rfl⟩
    obtain rfl : m = 0 := by omega
    cases e
    decide +kernel
  · refine ⟨2, _, rfl, by decide +kernel, fun m z' hm e => ?_, rfl⟩
    obtain rfl | rfl : m = 0 ∨ m = 1 := by omega
    · cases e
      decide +kernel
    · cases e
      decide +kernel
theorem ok_read (T : Txt K mg) : Hk.GOk P w K mg base CX0 5 "_law_read" ["_law_word_here"] (sp_read K) := by
  refine Hk.mkG T.g__law_read T.f_read (fun _ _ _ _ _ _ us hl => match us, hl with | [_], _ => rfl) sc_read (fun vs H Q E h => ?_) (fun cdv A outer s H vs Q E hr h => ?_)
  · obtain ⟨z, rfl, _⟩ := h
    rfl
  · obtain ⟨z, rfl, q⟩ := h
    refine ⟨_, (pss_cons (ps_set (i := 1) sc_read.nd rfl (.inl rfl) (pe_lst (pa_cons pe_str (pa_cons pe_str (pa_cons pe_str pa_nil)))))
      (pss_cons (ps_try_as (i := 3) rfl rfl sc_read.nd rfl rfl ⟨rfl, by decide, .inl T.g_BookError⟩ takes0 (fun W pn xe tk _ => by exact
        (pss_one (ps_set (i := 2) sc_read.nd rfl (.inl rfl) (Hk.pe_sS (ok_Truth_from_word T) T.r_Truth T.st_Truth_from_word (hr.mono (by decide)) (fun σ => passAt tk σ) (pe_glob (v := .ref (ga K "Truth")) (by rfl) T.g_Truth rfl) (pa_cons (pv 0) pa_nil))))) (fun a oe cls d pn hz hf => by exact
        (pss_one (ps_ret (pe_and (pe_callB (Hk.call_isEx hz hf) (by rfl) T.z_isinstance (by decide +kernel) (pa_cons (pv 3) (pa_cons (pe_glob (v := .ref (ga K "InvalidCondition")) (by rfl) T.g_InvalidCondition rfl) pa_nil))) (pe_and (pe_not (pe_callB (Hk.call_isEx hz hf) (by rfl) T.z_isinstance (by decide +kernel) (pa_cons (pv 3) (pa_cons (pe_glob (v := .ref (ga K "Refusal")) (by rfl) T.g_Refusal rfl) pa_nil)))) (pe_one (pe_cmpR (Hk.op_notIn_seqK (K := K)) (pv 0) (pv 1) rfl))))))))
      (pss_one (ps_ret (pe_and (pe_cmpR op_in_seq (pv 0) (pv 1) rfl) (pe_one (Hk.pe_g (ok_is_rank T) (hr.mono (by decide)) pass0 (pa_cons (pv 2) (pa_cons (pe_bm PySem.F.plainAttrs_list PySem.F.slot_list_index PySem.F.type_list_index mt_index (pv 1) (pa_cons (pv 0) pa_nil)) pa_nil))))))))), ?_⟩
    k_subL
    intro p np
    have sm : Same H (upd H p (.lst [.str "false", .str "unknown", .str "true"])) := Hk.same_upd np
    have hm : SqL K (upd H p (.lst [.str "false", .str "unknown", .str "true"])) p [.str "false", .str "unknown", .str "true"] := .inl (.inl upd_same)
    have e0 := T.k_InvalidCondition_BookError
    have e1 := T.ec_InvalidCondition
    have e2 := T.kt_InvalidCondition_InvalidCondition
    have e3 := T.kt_InvalidCondition_Refusal
    have ev : ∀ (x : Str) (u : Value), L2.RelV (.ref (ga K x)) u → u = .ref (ga K x) := fun _ _ h => h
    k_subL
    refine ⟨fun r h3 ez a H1 s1 t1 => ?_, fun hno => ⟨true, e0, fun _ a na => ?_, nofun⟩⟩
    · subst ez
      have hm1 := s1.seq hm
      have sm1 := sm.trans s1
      obtain ⟨j, y, j1, j2, j3, rfl⟩ := word_idx h3
      have f1 : flatV (.str (wordS (j : Int))) = true := rfl
      k_subL
      rw [show (if false = true then !inV (.str (wordS (j : Int))) [V.str "false", V.str "unknown", V.str "true"] else inV (.str (wordS (j : Int))) [V.str "false", V.str "unknown", V.str "true"]) = true from wordS_in h3]
      k_subL
      intro H2 s2
      exact q _ (sm1.trans s2)
    · have e4 := inV_no hno
      k_subL
      rw [show (if true = true then !inV (.str z) [V.str "false", V.str "unknown", V.str "true"] else inV (.str z) [V.str "false", V.str "unknown", V.str "true"]) = true from by rw [e4]; rfl]
      exact q _ sm
end
end K00


set_option Elab.async false
set_option linter.all false
set_option maxRecDepth 100000
set_option maxHeartbeats 4000000
/-! ### readings by themselves -/
open PySem PySem.Spec PyProof.Rows L2 in
local macro_rules | `(tactic| k_allIn) => `(tactic| first | (with_reducible assumption) | exact upd_same | (refine Hk.same_upd (by assumption) _ _ ?_; k_allIn) | (refine (upd_ne (by first | assumption | exact Ne.symm (by assumption))).trans ?_; k_allIn))
open PySem PySem.Spec PyProof.Rows L2 in
local macro_rules | `(tactic| k_memK) => `(tactic| first | (with_reducible exact rfl) | (with_reducible assumption) | exact rfl | exact Hk.lk_hd | k_allIn | exact Or.inl (Or.inl (by k_allIn)) | exact ⟨_, rfl⟩ | exact Or.inl ⟨rfl, _, by assumption⟩ | exact Or.inl ⟨rfl, _, Or.inl (Or.inl (by k_allIn))⟩ | exact (fun _ h => h) | exact ClsV.own _ | exact ClsV.ty _ | exact Or.inl ‹_› | exact Or.inr ‹_› | lcg_src | exact Or.inl ⟨by omega, by omega⟩ | exact Or.inr ⟨by omega, by omega⟩ | exact ⟨by omega, by omega⟩ | exact Nat.le_of_lt (small1000 (by simp)) | exact small1000 (by simp) | exact Nat.le_of_lt (small1000 (by omega)) | exact small1000 (by omega) | omega | assumption | decide +kernel)
local macro_rules | `(tactic| lcg_sub) => `(tactic| (refine And.intro ?_ ?_; k_memK))
local macro_rules | `(tactic| k_subL) => `(tactic| (repeat (first | (apply Exists.intro) | lcg_sub | (refine Or.inl ⟨_, rfl, ?_⟩) | (refine Or.inr ⟨_, rfl, ?_⟩))))
namespace K00
open PySem PySem.Spec PyProof.Rows L2
open He (ga ma ba)
def sp_law (K : PySem.W.Frag) : Sp := fun vs H Q _ => ∃ (a : Addr) (ns : List Int), vs = [.ref a] ∧ SqL K H a (ns.map V.int) ∧ ns.length ≤ 63 ∧ ∀ H', Q (.bl true) H'
/-- the ranks at p, the values at q -/
structure Made (K : PySem.W.Frag) (H : Hp) (p q : Addr) (rs : List Int) (ms : List Addr) : Prop where
  hp : H p = some (.lst (rs.map V.int))
  hq : H q = some (.lst (ms.map V.ref))
  ln : ms.length = rs.length
  all : ∀ (i : Nat) m r, ms[i]? = some m → rs[i]? = some r → TruthAt K H m r ∧ R3 r
theorem Made.same {K : PySem.W.Frag} {H H' : Hp} {p q : Addr} {rs : List Int} {ms : List Addr} (M : Made K H p q rs ms) (s : Same H H') : Made K H' p q rs ms :=
  ⟨s _ _ M.hp, s _ _ M.hq, M.ln, fun i m r h k => ⟨(M.all i m r h k).1.mono s, (M.all i m r h k).2⟩⟩
theorem TruthAt.ne {K : PySem.W.Frag} {H : Hp} {a b : Addr} {r : Int} {xs : List V} (t : TruthAt K H a r) (h : H b = some (.lst xs)) : a ≠ b := by
  obtain ⟨dx, e⟩ := t
  exact ne_of e h (by intro z; cases z)
theorem TruthAt.but {K : PySem.W.Frag} {H H' : Hp} {a b l : Addr} {r : Int} (t : TruthAt K H a r) (B : BoxAt H b l) (s : SameBut b H H') : TruthAt K H' a r := by
  obtain ⟨ns, i, m, c, g, B⟩ := B
  have n := t.ne B.hb
  obtain ⟨dx, e⟩ := t
  exact ⟨dx, s _ _ e n⟩
theorem TruthAt.set {K : PySem.W.Frag} {H : Hp} {a b : Addr} {r : Int} {xs : List V} {o : HO} (t : TruthAt K H a r) (h : H b = some (.lst xs)) : TruthAt K (upd H b o) a r := by
  have n := t.ne h
  obtain ⟨dx, e⟩ := t
  exact ⟨dx, by rw [upd_ne n]; exact e⟩
theorem Made.but {K : PySem.W.Frag} {H H' : Hp} {p q b l : Addr} {rs : List Int} {ms : List Addr} (M : Made K H p q rs ms) (B : BoxAt H b l) (s : SameBut b H H') (n1 : p ≠ b) (n2 : q ≠ b) : Made K H' p q rs ms :=
  ⟨s _ _ M.hp n1, s _ _ M.hq n2, M.ln, fun i m r h k => ⟨(M.all i m r h k).1.but B s, (M.all i m r h k).2⟩⟩
theorem Made.at {K : PySem.W.Frag} {H : Hp} {p q : Addr} {rs : List Int} {ms : List Addr} (M : Made K H p q rs ms) {i : Nat} (h : i < rs.length) : ∃ m r dx, TruthAt K H m r ∧ H m = some (.ins (ga K "Truth") dx [("rank", .int r)]) ∧ R3 r ∧ atI (ms.map V.ref) (i : Int) = some (.ref m) ∧ atI (rs.map V.int) (i : Int) = some (.int r) := by
  have h' : i < ms.length := by rw [M.ln]; exact h
  obtain ⟨t, r3⟩ := M.all i _ _ (List.getElem?_eq_getElem h') (List.getElem?_eq_getElem h)
  obtain ⟨dx, e⟩ := id t
  exact ⟨_, _, dx, t, e, r3, atI_nat (by rw [List.getElem?_map, List.getElem?_eq_getElem h']; rfl), atI_nat (by rw [List.getElem?_map, List.getElem?_eq_getElem h]; rfl)⟩
theorem R3.of {r : Int} (h0 : 0 ≤ r) (h1 : r < 3) : R3 r := by
  unfold R3
  omega
section
variable {P : Program} {w : World} {K : PySem.W.Frag} {mg : Str → Option Value} {base : Heap}
theorem run_law (T : Txt K mg) {fd : FuncData} (F : FunD K "law" "law" (defArgs s_law) (defBody s_law) (defScope s_law) [] [] (ga K "law") fd) : FnOk P w K mg base CX0 7 (ga K "law") fd ["_law_script"] (sp_law K) := by
  refine Hk.mkL F sc_law (fun vs H Q E h => ?_) (fun cdv A outer s H vs Q E hr h => ?_)
  · obtain ⟨a, ns, rfl, _⟩ := h
    rfl
  · obtain ⟨a, ns, rfl, hs, hn, qq⟩ := h
    obtain ⟨ucount, hcount⟩ := T.v_Truth_COUNT
    have hread := Hk.read_ok T.r_Truth
    refine ⟨_, (pss_cons (ps_set (i := 1) sc_law.nd rfl (.inl rfl) (Hk.pe_g (ok_box T) (hr.mono (by decide)) pass0 (pa_cons (pv 0) pa_nil)))
      (pss_cons (ps_set (i := 2) sc_law.nd rfl (.inl rfl) (pe_lst pa_nil))
      (pss_cons (ps_set (i := 3) sc_law.nd rfl (.inl rfl) (pe_lst pa_nil))
      (pss_cons (ps_for PassesOwn.never rfl (pi_range1 (by rfl) T.z_range (pa_cons pe_int pa_nil)) (pg_name (i := 4) sc_law.nd rfl (.inl rfl))
        (pss_cons (ps_expr (pe_bm PySem.F.plainAttrs_list PySem.F.slot_list_append PySem.F.type_list_append mt_append (pv 2) (pa_cons (Hk.pe_g (ok_draw T) (hr.mono (by decide)) pass0 (pa_cons (pv 1) (pa_cons pe_int pa_nil))) pa_nil)))
        (pss_one (ps_expr (pe_bm PySem.F.plainAttrs_list PySem.F.slot_list_append PySem.F.type_list_append mt_append (pv 3) (pa_cons (Hk.pe_g (ok_made T) (hr.mono (by decide)) pass0 (pa_cons (pe_ix ix_list (pv 2) (pv 4) (fun _ _ => rfl)) (pa_cons (Hk.pe_g (ok_draw T) (hr.mono (by decide)) pass0 (pa_cons (pv 1) (pa_cons pe_int pa_nil))) pa_nil))) pa_nil))))))
      (pss_cons (ps_if (PW.pt (pw_or (pt_not (pt_val (Hk.pe_g (ok_alike T 1) (hr.mono (by decide)) pass0 (pa_cons (ClX.pe_cval (pe_glob (v := .ref (ga K "Truth")) (by rfl) T.g_Truth rfl)) (pa_cons pe_int pa_nil))))) (pw_or1 (pt_not (pt_val (Hk.pe_g (ok_read T) (hr.mono (by decide)) pass0 (pa_cons (Hk.pe_g (ok_word T) (hr.mono (by decide)) pass0 (pa_cons (pv 1) pa_nil)) pa_nil)))))))
        (pss_one (ps_ret pe_bl))
        pss_nil)
      (pss_cons (ps_for PassesOwn.never rfl (pi_range1 (by rfl) T.z_range (pa_cons pe_int pa_nil)) (pg_name (i := 5) sc_law.nd rfl (.inl rfl))
        (pss_one (ps_for PassesOwn.never rfl (pi_range1 (by rfl) T.z_range (pa_cons pe_int pa_nil)) (pg_name (i := 6) sc_law.nd rfl (.inl rfl))
          (pss_one (ps_if (pt_not (pt_val (Hk.pe_g (ok_pair T) (hr.mono (by decide)) pass0 (pa_cons (pe_ix ix_list (pv 3) (pv 5) (fun _ _ => rfl)) (pa_cons (pe_ix ix_list (pv 3) (pv 6) (fun _ _ => rfl)) (pa_cons (pe_ix ix_list (pv 2) (pv 5) (fun _ _ => rfl)) (pa_cons (pe_ix ix_list (pv 2) (pv 6) (fun _ _ => rfl)) pa_nil)))))))
            (pss_one (ps_ret pe_bl))
            pss_nil)))))
      (pss_cons (ps_set (i := 7) sc_law.nd rfl (.inl rfl) (pe_op (Hk.op_bin (ok_Truth_or T) T.sf_Truth T.m_Truth_or (hr.mono (by decide)) pass0) (pe_op (Hk.op_bin (ok_Truth_and T) T.sf_Truth T.m_Truth_and (hr.mono (by decide)) pass0) (pe_ix ix_list (pv 3) pe_int (fun _ _ => rfl)) (pe_un (Hk.un_inv (ok_Truth_invert T) T.m_Truth_invert (hr.mono (by decide)) pass0) (pe_ix ix_list (pv 3) pe_int (fun _ _ => rfl)))) (pe_op (Hk.op_bin (ok_Truth_xor T) T.sf_Truth T.m_Truth_xor (hr.mono (by decide)) pass0) (pe_ix ix_list (pv 3) pe_int (fun _ _ => rfl)) (pe_ix ix_list (pv 3) pe_int (fun _ _ => rfl)))))
      (pss_cons (ps_set (i := 8) sc_law.nd rfl (.inl rfl) (pe_callB (call_max2 rfl) (by rfl) T.z_max (by decide +kernel) (pa_cons (pe_callB (call_min2 rfl) (by rfl) T.z_min (by decide +kernel) (pa_cons (pe_ix ix_list (pv 2) pe_int (fun _ _ => rfl)) (pa_cons (pe_op op_sub pe_int (pe_ix ix_list (pv 2) pe_int (fun _ _ => rfl))) pa_nil))) (pa_cons (Hk.pe_g (ok_differ T) (hr.mono (by decide)) pass0 (pa_cons (pe_ix ix_list (pv 2) pe_int (fun _ _ => rfl)) (pa_cons (pe_ix ix_list (pv 2) pe_int (fun _ _ => rfl)) pa_nil))) pa_nil))))
      (pss_cons (ps_for PassesOwn.never rfl (pi_range1 (by rfl) T.z_range (pa_cons pe_int pa_nil)) (pg_name (i := 4) sc_law.nd rfl (.inl rfl))
        (pss_one (ps_if (pt_not (pt_val (Hk.pe_g (ok_is_rank T) (hr.mono (by decide)) pass0 (pa_cons (pe_ix ix_list (pv 3) (pv 4) (fun _ _ => rfl)) (pa_cons (pe_ix ix_list (pv 2) (pv 4) (fun _ _ => rfl)) pa_nil)))))
          (pss_one (ps_ret pe_bl))
          pss_nil)))
      (pss_one (ps_ret (Hk.pe_g (ok_is_rank T) (hr.mono (by decide)) pass0 (pa_cons (pv 7) (pa_cons (pv 8) pa_nil)))))))))))))), ?_⟩
    k_subL
    intro b l H1 s1 nb nl hb1
    k_subL
    intro p np
    have hb2 := hb1.upd (o := .lst []) np
    have pb := hb1.ne np
    have pl := hb1.nel np
    k_subL
    intro q nq
    have hb3 := hb2.upd (o := .lst []) nq
    have qb := hb2.ne nq
    have ql := hb2.nel nq
    have pq : p ≠ q := ne_of_none upd_same nq
    dsimp only [gName]
    refine Hk.seq_rest (fun σ' H' => ∃ v rs ms, σ' = [some (.ref a), some (.ref b), some (.ref p), some (.ref q), v, none, none, none, none] ∧ Made K H' p q rs ms ∧ rs.length = 3 ∧ BoxAt H' b l) (fun nx hnx => ?_) ?_
    · refine Hk.tfor_rng (lo := 0) (n := 3) (fun i σ' H' => ∃ v rs ms, σ' = [some (.ref a), some (.ref b), some (.ref p), some (.ref q), v, none, none, none, none] ∧ Made K H' p q rs ms ∧ rs.length = i ∧ BoxAt H' b l) (fun R hR => ?_) ⟨none, [], [], rfl, ⟨by rw [upd_ne pq]; exact upd_same, upd_same, rfl, nofun⟩, rfl, hb3⟩ (fun i σ' H' nx2 hi hp hnx2 => ?_) (fun σ' H' hp => hnx _ _ hp)
      · k_subL
        exact hR
      · obtain ⟨v, rs, ms, rfl, M, hlen, hb4⟩ := hp
        have e1 := M.hp
        k_subL
        intro k1 H5 k10 k11 hb5 s5
        have M5 := M.but hb4 s5 pb qb
        have e5 := M5.hp
        have lr : (rs.map V.int).length < sizeLine := small1000 (by rw [List.length_map]; omega)
        k_subL
        have b6 := hb5.set (o := .lst (rs.map V.int ++ [V.int k1])) pb pl
        have q6 : (upd H5 p (.lst (rs.map V.int ++ [V.int k1]))) q = some (.lst (ms.map V.ref)) := by rw [upd_ne pq.symm]; exact M5.hq
        have p6 : SqL K (upd H5 p (.lst (rs.map V.int ++ [V.int k1]))) p (rs.map V.int ++ [V.int k1]) := .inl (.inl upd_same)
        have i6 : atI (rs.map V.int ++ [V.int k1]) (0 + (i : Int)) = some (.int k1) := by
          rw [Int.zero_add]
          refine atI_nat ?_
          rw [List.getElem?_append_right (by rw [List.length_map]; omega), List.length_map, hlen, Nat.sub_self]
          rfl
        k_subL
        intro k2 H7 _ _ hb7 s7
        have r3 := R3.of k10 k11
        k_subL
        intro m H8 s8 t8
        have q8 := s8 _ _ (s7 _ _ q6 qb)
        have p8 := s8 _ _ (s7 _ _ upd_same pb)
        have b8 := hb7.same s8
        have lm : (ms.map V.ref).length < sizeLine := small1000 (by rw [List.length_map, M.ln]; omega)
        k_subL
        refine hnx2 _ _ ⟨_, rs ++ [k1], ms ++ [m], rfl, ⟨by rw [upd_ne pq, p8, List.map_append]; rfl, by rw [upd_same, List.map_append]; rfl, by rw [List.length_append, List.length_append, M.ln] <;> rfl, fun j m' r' h1 h2 => ?_⟩, by rw [List.length_append, hlen] <;> rfl, b8.set qb ql⟩
        by_cases hj : j < rs.length
        · rw [List.getElem?_append_left (by rw [M.ln]; exact hj)] at h1
          rw [List.getElem?_append_left hj] at h2
          obtain ⟨t, r⟩ := M5.all j m' r' h1 h2
          exact ⟨(((t.set e5).but b6 s7).mono s8).set q8, r⟩
        · rw [List.getElem?_append_right (by rw [M.ln]; omega)] at h1
          rw [List.getElem?_append_right (by omega)] at h2
          have ej : j - rs.length = 0 := by
            rcases Nat.eq_zero_or_pos (j - rs.length) with z | z
            · exact z
            · rw [List.getElem?_eq_none (by simp; omega)] at h2
              cases h2
          rw [M.ln, ej] at h1
          rw [ej] at h2
          cases h1
          cases h2
          exact ⟨t8.set q8, r3⟩
    · rintro σ' H2 ⟨v, rs, ms, rfl, M, hlen, hb4⟩
      refine Hk.seq_rest (fun σ' H' => σ' = [some (.ref a), some (.ref b), some (.ref p), some (.ref q), v, none, none, none, none] ∧ Made K H' p q rs ms) (fun nx hnx => ?_) ?_
      · k_subL
        refine ⟨.int 3, .int 3, rfl, ?_⟩
        k_subL
        intro z H3 hb5 s5
        have M5 := M.but hb4 s5 pb qb
        k_subL
        intro H4 s6
        k_subL
        exact hnx _ _ ⟨rfl, M5.same s6⟩
      rintro σ' H3 ⟨rfl, M3⟩
      refine Hk.seq_rest (fun σ' H' => ∃ v5 v6, σ' = [some (.ref a), some (.ref b), some (.ref p), some (.ref q), v, v5, v6, none, none] ∧ Made K H' p q rs ms) (fun nx hnx => ?_) ?_
      · refine Hk.tfor_rng (lo := 0) (n := 3) (fun i σ' H' => ∃ v5 v6, σ' = [some (.ref a), some (.ref b), some (.ref p), some (.ref q), v, v5, v6, none, none] ∧ Made K H' p q rs ms) (fun R hR => ?_) ⟨none, none, rfl, M3⟩ (fun i σ' H' nx2 hi hp hnx2 => ?_) (fun σ' H' hp => hnx _ _ hp)
        · k_subL
          exact hR
        obtain ⟨v5, v6, rfl, M4⟩ := hp
        refine Hk.tfor_rng (lo := 0) (n := 3) (fun j σ' H' => ∃ v6, σ' = [some (.ref a), some (.ref b), some (.ref p), some (.ref q), v, some (.int (0 + i)), v6, none, none] ∧ Made K H' p q rs ms) (fun R hR => ?_) ⟨v6, rfl, M4⟩ (fun j σ' H' nx3 hj hp hnx3 => ?_) (fun σ' H' hp => ?_)
        · k_subL
          exact hR
        · obtain ⟨v6', rfl, M6⟩ := hp
          obtain ⟨m1, r1, d1, t1, e1, x1, a1, b1⟩ := M6.at (i := i) (by omega)
          obtain ⟨m2, r2, d2, t2, e2, x2, a2, b2⟩ := M6.at (i := j) (by omega)
          have hp6 := M6.hp
          have hq6 := M6.hq
          rw [← Int.zero_add ((i : Nat) : Int)] at a1 b1
          rw [← Int.zero_add ((j : Nat) : Int)] at a2 b2
          k_subL
          intro H7 s7
          k_subL
          exact hnx3 _ _ ⟨_, rfl, M6.same s7⟩
        · obtain ⟨v6', rfl, M6⟩ := hp
          exact hnx2 _ _ ⟨_, _, rfl, M6⟩
      rintro σ' H4 ⟨v5, v6, rfl, M4⟩
      obtain ⟨m0, r0, d0, t0, e0, x0, a0, b0⟩ := M4.at (i := 0) (by omega)
      obtain ⟨m1, r1, d1, t1, e1, x1, a1, b1⟩ := M4.at (i := 1) (by omega)
      obtain ⟨m2, r2, d2, t2, e2, x2, a2, b2⟩ := M4.at (i := 2) (by omega)
      have a0' : atI (ms.map V.ref) 0 = some (.ref m0) := a0
      have a1' : atI (ms.map V.ref) 1 = some (.ref m1) := a1
      have a2' : atI (ms.map V.ref) 2 = some (.ref m2) := a2
      have b0' : atI (rs.map V.int) 0 = some (.int r0) := b0
      have b1' : atI (rs.map V.int) 1 = some (.int r1) := b1
      have b2' : atI (rs.map V.int) 2 = some (.int r2) := b2
      have hq4 := M4.hq
      refine Hk.seq_rest (fun σ' H' => ∃ c, σ' = [some (.ref a), some (.ref b), some (.ref p), some (.ref q), v, v5, v6, some (.ref c), none] ∧ Made K H' p q rs ms ∧ TruthAt K H' c (if differ r1 r2 > (if 2 - r1 < r0 then 2 - r1 else r0) then differ r1 r2 else (if 2 - r1 < r0 then 2 - r1 else r0))) (fun nx hnx => ?_) ?_
      · k_subL
        intro c1 H5 s5 t5
        obtain ⟨dc1, ec1⟩ := id t5
        have e0' := s5 _ _ e0
        have e1' := s5 _ _ e1
        have e2' := s5 _ _ e2
        have t0' := t0.mono s5
        have t1' := t1.mono s5
        have t2' := t2.mono s5
        have hq5 := s5 _ _ hq4
        k_subL
        intro c2 t6
        obtain ⟨dc2, ec2⟩ := id t6
        k_subL
        intro c3 H7 s7 t7
        obtain ⟨dc3, ec3⟩ := id t7
        have ec2' := s7 _ _ ec2
        have t6' := t6.mono s7
        k_subL
        intro c4 t8
        exact hnx _ _ ⟨c4, rfl, (M4.same s5).same s7, t8⟩
      rintro σ' H5 ⟨c, rfl, M5, tc⟩
      have hp5 := M5.hp
      have hq5 := M5.hq
      refine Hk.seq_rest (fun σ' H' => σ' = [some (.ref a), some (.ref b), some (.ref p), some (.ref q), v, v5, v6, some (.ref c), some (.int (if differ r1 r2 > (if 2 - r1 < r0 then 2 - r1 else r0) then differ r1 r2 else (if 2 - r1 < r0 then 2 - r1 else r0)))] ∧ H' = H5) (fun nx hnx => ?_) ?_
      · k_subL
        exact hnx _ _ ⟨rfl, rfl⟩
      rintro σ' H6 ⟨rfl, rfl⟩
      have xd : R3 (if differ r1 r2 > (if 2 - r1 < r0 then 2 - r1 else r0) then differ r1 r2 else (if 2 - r1 < r0 then 2 - r1 else r0)) := r3_max (r3_min x0 (r3_not x1)) r3_differ
      generalize (if differ r1 r2 > (if 2 - r1 < r0 then 2 - r1 else r0) then differ r1 r2 else (if 2 - r1 < r0 then 2 - r1 else r0)) = D at tc xd
      refine Hk.tfor_rng (lo := 0) (n := 3) (fun i σ' H' => ∃ v, σ' = [some (.ref a), some (.ref b), some (.ref p), some (.ref q), v, v5, v6, some (.ref c), some (.int D)] ∧ Made K H' p q rs ms ∧ TruthAt K H' c D) (fun R hR => ?_) ⟨v, rfl, M5, tc⟩ (fun i σ' H' nx2 hi hp hnx2 => ?_) (fun σ' H' hp => ?_)
      · k_subL
        exact hR
      · obtain ⟨v', rfl, M6, t6⟩ := hp
        obtain ⟨mi, ri, di, ti, ei, xi, ai, bi⟩ := M6.at (i := i) (by omega)
        have hp6 := M6.hp
        have hq6 := M6.hq
        rw [← Int.zero_add ((i : Nat) : Int)] at ai bi
        k_subL
        intro H7 s7
        k_subL
        exact hnx2 _ _ ⟨_, rfl, M6.same s7, t6.mono s7⟩
      · obtain ⟨v', rfl, M6, t6⟩ := hp
        k_subL
        intro H7 s7
        exact qq _
end
end K00


set_option Elab.async false
set_option linter.all false
set_option maxRecDepth 100000
set_option maxHeartbeats 4000000
namespace K00
open PySem PySem.Spec PyProof.Rows L2
open He (ga ma ba)
theorem facts {P : Program} {w : World} {K : PySem.W.Frag} {h : Heap} {mg : Str → Option Value} {f : Addr} (X : K.In h) (G : h.Ns mainGlobals mg) (hfa : mg ("law" : Str) = some (.ref f)) (c : Hk.SaysE ex fn K) :
    ∃ fd : FuncData, (∀ (s : Shared) (v : Value), BindsTo s fd ⟨[v], []⟩ [("_law_script", v)]) ∧ ∀ base : Heap, K.In base → base.Ns mainGlobals mg → FnOk P w K mg base CX0 7 f fd ["_law_script"] (sp_law K) := by
  have T : Txt K mg := ⟨c, Hk.nsAll_of X G⟩
  have e := hfa.symm.trans T.g_law
  cases e
  obtain ⟨fd, F⟩ := T.f_law
  exact ⟨fd, fun s v => FunD.bindsA (ps := ["_law_script"]) F (fun _ _ _ _ _ _ us hl => match us, hl with | [_], _ => rfl) s [v] rfl, fun base _ _ => run_law T F⟩
end K00
open PySem PySem.W PySem.Calls PyProof.Rows
set_option maxHeartbeats 0 in
theorem PySem.Challenge.cw_bookstogether_k00_truth_values_holds : PySem.Challenge.rw_bookstogether_k00_truth_values.Holds := by
  w_on; o_law
  refine HandSHeadRun.head_any (r := OpenLaw.row PySem.Challenge.rw_bookstogether_k00_truth_values) (q := view (OpenLaw.row PySem.Challenge.rw_bookstogether_k00_truth_values).prog [19]) (H := K00.hk) (ob := K00.ob) (M := 6000) (loose := K00.loose) (d := HandSHeadRun.topDef (OpenLaw.row PySem.Challenge.rw_bookstogether_k00_truth_values).prog 19) (kwd := []) K00.ob_eq
    (by kernel_rfl) (fun s => by kernel_rfl) K00.run (by kernel_rfl) (by kernel_rfl) (by kernel_rfl) (by rfl) (by first | assumption | decide +kernel) (by decide +kernel) ⟨rfl, rfl, rfl, rfl, rfl, by decide +kernel⟩ ?hw ?hc
  case hw => w_witness2
  case hc =>
    refine L2.walk_ofE (l := PySem.Challenge.rw_bookstogether_k00_truth_values) (n := 63) (k := 7) (x := "_law_script") (CX := L2.CX0) rfl (by decide) (by kernel_rfl) ⟨rfl, by decide, by decide⟩ ?F (fun _ _ _ _ z => z)
    intro w mg fa h Y G hmg0
    obtain ⟨K, KX, c⟩ := Y
    have hmg : mg ("law" : PySem.Str) = some (.ref fa) := by
      have e : (HandSHeadRun.topDef (OpenLaw.row PySem.Challenge.rw_bookstogether_k00_truth_values).prog 19).name = ("law" : PySem.Str) := by kernel_rfl
      rw [← e]
      exact hmg0
    obtain ⟨fd, hb, hF⟩ := K00.facts (P := (PySem.Challenge.rw_bookstogether_k00_truth_values).prog) (w := w) KX G hmg c
    exact ⟨K, fd, K00.sp_law K, KX, hb, fun H a ns hl _ hS => ⟨a, ns, rfl, hS, hl, fun _ => rfl⟩, hF⟩

