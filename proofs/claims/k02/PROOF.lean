import PyProof.Rows.All
import Wide.All
import OpenK.AllK
import Wide.FinOn
import HandS.ForExc
import HandS.Property
import KE.KStateDown
import HandS.Defaults
import HandS.ClsMeth
import HandS.Head0
import HandS.Head1
import HandS.Head2
import HandS.HeadEnd
import HandS.HeadHook1
import HandS.HeadHook2
import HandS.HeadNt
import HandS.IsInst
import HandS.ExcIs
import HandS.ExcInit
import HandS.ExcField
import HandS.ExcOwn
import KE.KExcIs
import HandS.ExcInitHot
import HandS.TupAny
import HandS.HeadHook3
import HandS.MakeKwOnly
import HandS.Zip
import HandS.ForMost
import HandS.Strs
import HandS.Style
import HandS.WideBits
import HandS.Comp
import PySem.Challenge.RW_bookstogether_k02_conditions_checked
section
set_option Elab.async false
set_option linter.all false
set_option maxRecDepth 100000
set_option maxHeartbeats 4000000
/-! Own operators, truth, static methods of plain own classes. -/
namespace OwnX
open PySem PySem.Spec PyProof.Rows L2

section
variable {X : Cx} {CX : CXT} {pins : List (Addr × Obj)} {σ : L2.St} {H : Hp} {s : Shared} {a C dx f p : Addr} {k : Nat} {fd : FuncData} {ps : List Str} {sp : Sp} {E : XK} {m : Str} {mc : Value}

/-- a def is called below the running body -/
theorem run_call {Q : VK} {A : Around} {us : List Value} {vs : List V} (F : FnOk X.prog X.w X.K X.mg X.base CX k f fd ps sp) (hr : Room k A) (e0 : Env0 X.prog X.w X.K X.mg X.base A X.stack s H) (hb : Binds X.K fd ps []) (hx : Passes CX X E)
    (I : Inv X pins σ H s) (r : Vals vs us) (h : sp vs H Q E) : wpAny (model X.prog X.w) A (call (.ref f) us) (EP X pins σ Q) X.xe s := by
  have hl : us.length = ps.length := by rw [← F.len _ _ _ _ h, r.length]
  refine wpAny_call (codeAny_mono (F.run A X.stack s H ⟨us, []⟩ us vs Q E hr e0 (by
    have := hb s us I.kIn (by simpa using hl)
    simpa using this) r h) fun r s' hq => ?_)
  cases r with
  | error e => exact hx pins σ H s e s' I hq
  | ok fl =>
    cases fl with
    | ret w => exact I.after hq
    | next => exact False.elim hq
    | brk => exact False.elim hq
    | cont => exact False.elim hq
theorem cmpback {P : Value → Shared → Prop} {z : V} {v : Value} {s' : Shared} (r : RelV z v) (h : P v s') : PySem.W.CmpBack P v s' := by
  cases z with
  | non => cases (show v = Value.none from r); exact h
  | bl b => cases (show v = Value.bool b from r); exact h
  | int i =>
    obtain ⟨t, e⟩ := (show ∃ t, v = Value.int i t from r)
    cases e
    exact h
  | str x =>
    obtain ⟨t, e⟩ := (show ∃ t, v = Value.str x t from r)
    cases e
    exact h
  | byt b =>
    obtain ⟨t, e⟩ := (show ∃ t, v = Value.bytes b t from r)
    cases e
    exact h
  | flt b =>
    obtain ⟨t, e⟩ := (show ∃ t, v = Value.float b t from r)
    cases e
    exact h
  | ref a => cases (show v = Value.ref a from r); exact h
  | ty n => cases (show v = Value.type n from r); exact h
/-- x op y, both instances of the class at C -/
def rOwn (C : Addr) (sp : Sp) (E : XK) : R2 := fun x y H Q => ∃ a dx fs b dy gs, x = .ref a ∧ y = .ref b ∧ H a = some (.ins C dx fs) ∧ H b = some (.ins C dy gs) ∧ sp [x, y] H Q E
theorem op_bin {op : Operator} (hc : PySem.W.selfFirst X.K C = true) (M : Meth X.K C (PySem.dunder op.info.2) f) (F : FnOk X.prog X.w X.K X.mg X.base CX k f fd ps sp) (hr : Room k X.A) (hb : Binds X.K fd ps []) (hx : Passes CX X E) :
    OpR X (binaryOp op) (rOwn C sp E) := by
  intro pins s σ H x y v u Q I rx ry h
  obtain ⟨a, dx, fs, b, dy, gs, rfl, rfl, ha, hb', q⟩ := h
  cases (show v = Value.ref a from rx)
  cases (show u = Value.ref b from ry)
  obtain ⟨mA, J, _⟩ := ins_get I.hok ha
  obtain ⟨mB, J', _⟩ := ins_get I.hok hb'
  obtain ⟨od, J, _⟩ := J.look
  obtain ⟨od', J', _⟩ := J'.look
  obtain ⟨m, hF⟩ := I.fr
  refine PySem.W.binop_K (op := op) hF I.ok.mod.kin J J'.type hc M.at_ M.fn ?_
  refine wpAny_mono (run_call (us := [.ref a, .ref b]) (vs := [.ref a, .ref b]) F hr I.env0 hb hx I (.cons rfl (.cons rfl .nil)) q) (fun w s' z => ?_) fun _ _ x => x
  obtain ⟨z', H', I', rz, qz⟩ := z
  exact cmpback rz ⟨z', H', I', rz, qz⟩
theorem op_cmp {op : CmpOp} (hop : ∀ a b, compareOp op a b = richCompare op a b) (M : Meth X.K C (cmpInfo op).2.1 f) (F : FnOk X.prog X.w X.K X.mg X.base CX k f fd ps sp) (hr : Room k X.A) (hb : Binds X.K fd ps []) (hx : Passes CX X E) :
    OpR X (compareOp op) (rOwn C sp E) := by
  intro pins s σ H x y v u Q I rx ry h
  obtain ⟨a, dx, fs, b, dy, gs, rfl, rfl, ha, hb', q⟩ := h
  cases (show v = Value.ref a from rx)
  cases (show u = Value.ref b from ry)
  obtain ⟨mA, J, _⟩ := ins_get I.hok ha
  obtain ⟨mB, J', _⟩ := ins_get I.hok hb'
  obtain ⟨od, J, _⟩ := J.look
  obtain ⟨od', J', _⟩ := J'.look
  obtain ⟨m, hF⟩ := I.fr
  rw [hop]
  refine PySem.W.cmp_K (op := op) (tb := .ref C) hr.units0 hF I.ok.mod.kin J J'.type (by simp [PySem.W.notFirst]) M.at_ M.fn ?_
  refine wpAny_mono (run_call (us := [.ref a, .ref b]) (vs := [.ref a, .ref b]) F hr I.env0 hb hx I (.cons rfl (.cons rfl .nil)) q) (fun w s' z => ?_) fun _ _ x => x
  obtain ⟨z', H', I', rz, qz⟩ := z
  exact cmpback rz ⟨z', H', I', rz, qz⟩
/-- ~x -/
def rOwn1 (C : Addr) (sp : Sp) (E : XK) : V → Hp → VK → Prop := fun x H Q => ∃ a dx fs, x = .ref a ∧ H a = some (.ins C dx fs) ∧ sp [x] H Q E
theorem un_inv (M : Meth X.K C "__invert__" f) (F : FnOk X.prog X.w X.K X.mg X.base CX k f fd ps sp) (hr : Room k X.A) (hb : Binds X.K fd ps []) (hx : Passes CX X E) : UnR X (unaryOp .Invert) (rOwn1 C sp E) := by
  intro pins s σ H x v Q I rx h
  obtain ⟨a, dx, fs, rfl, ha, q⟩ := h
  cases (show v = Value.ref a from rx)
  obtain ⟨mA, J, _⟩ := ins_get I.hok ha
  obtain ⟨od, J, _⟩ := J.look
  obtain ⟨m, hF⟩ := I.fr
  exact PySem.W.ksp_inv hF I.ok.mod.kin J M.at_ M.fn (run_call (us := [.ref a]) (vs := [.ref a]) F hr I.env0 hb hx I (.cons rfl .nil) q)
/-- the truth of x by its own __bool__ -/
def rTruth (C : Addr) (sp : Sp) (E : XK) : V → Hp → (Bool → Hp → Prop) → Prop := fun x H Q => ∃ a dx fs, x = .ref a ∧ H a = some (.ins C dx fs) ∧ sp [x] H (fun v H' => ∃ b, v = .bl b ∧ Q b H') E
theorem truth_at {A : Around} {Q : Bool → Hp → Prop} {E' : Value → Shared → Prop} (I : Inv X pins σ H s) (e : H a = some (.ins C dx fs)) (M : Meth X.K C "__bool__" f)
    (h : wpAny (model X.prog X.w) A (call (.ref f) [.ref a]) (EP X pins σ fun v H' => ∃ b, v = .bl b ∧ Q b H') E' s) : wpAny (model X.prog X.w) A (truthy (.ref a)) (TP X pins σ Q) E' s := by
  obtain ⟨mA, J, _⟩ := ins_get I.hok e
  obtain ⟨od, J, _⟩ := J.look
  obtain ⟨m, hF⟩ := I.fr
  refine PySem.W.truthy_K hF I.ok.mod.kin J M.at_ M.fn (wpAny_mono h (fun r s' hr => ?_) fun _ _ y => y)
  obtain ⟨v, H', I', rv, b, ev, q⟩ := hr
  subst ev
  cases (show r = Value.bool b from rv)
  exact ⟨H', I', q⟩
theorem tru_own (M : Meth X.K C "__bool__" f) (F : FnOk X.prog X.w X.K X.mg X.base CX k f fd ps sp) (hr : Room k X.A) (hb : Binds X.K fd ps []) (hx : Passes CX X E) : TruR X (rTruth C sp E) := by
  intro pins s σ H x v Q I rx h
  obtain ⟨a, dx, fs, rfl, ha, q⟩ := h
  cases (show v = Value.ref a from rx)
  exact truth_at I ha M (run_call (us := [.ref a]) (vs := [.ref a]) F hr I.env0 hb hx I (.cons rfl .nil) q)
/-- a test that is an own instance's truth -/
theorem pt_own {e : Expr} {ta : TE} (ha : PE X e ta) (M : Meth X.K C "__bool__" f) (F : FnOk X.prog X.w X.K X.mg X.base CX k f fd ps sp) (hr : Room k X.A) (hb : Binds X.K fd ps []) (hx : Passes CX X E)
    (he : ∀ whole, isTrue e X.env whole = (do let v ← whole; standAt e.pos; holding [v] (truthy v)) := by intro _; rfl) :
    PT X e (fun σ H Q => ta σ H fun x H' => rTruth C sp E x H' Q) := by
  refine ⟨fun pins s σ H Q I h => ?_⟩
  exact isTrue_plain (thn (ha.run pins s σ H _ I h) fun v s1 ⟨x, H1, I1, r1, q1⟩ => tru_own M F hr hb hx pins s1 σ H1 x v Q I1 r1 q1) (he _)
/-- bool(x) -/
theorem bool_own {A : Around} {x : Addr} {Q : Value → Shared → Prop} {E' : Value → Shared → Prop} {prog : Program} {w : World} {s : Shared}
    (h : wpAny (model prog w) A.in1.in1 (truthy (.ref x)) (fun b s₁ => Q (.bool b) s₁) E' s) : wpAny (model prog w) A (call (.type "bool") [.ref x]) Q E' s := by
  refine callType_codes (T := "bool") (Bi := Builtin.«object.__init__») (Q₁ := fun r s₁ => ∃ b, r = Value.bool b ∧ Q r s₁) PySem.F.called_bool (PySem.F.typeCall_bool_1 _) PySem.F.entry_object_init ?_ ?_
  · refine codeAny_of_tree ?_
    show wpAny _ A.in1.in1 (do checkBuiltinCall "bool.__new__" ⟨[.type "bool", .ref x], []⟩; again (.builtin "bool.__new__" ⟨[.type "bool", .ref x], []⟩)) _ _ s
    refine wpAny_bind (wpAny_of_eq (PySem.F.newCall_bool_1 _) (wpAny_pure ⟨plainId_quiet (by decide +kernel) _, codeAny_builtin PySem.F.entry_bool_new ?_⟩))
    rw [Around.under_plainId (by decide +kernel) _]
    unfold Builtin.«bool.__new__»
    refine wpAny_bind (wpAny_of_eq (a := true) (by kernel_rfl) ?_)
    refine PySem.W.KFB.if_not rfl ?_
    refine wpAny_bind (wpAny_of_eq (a := true) PySem.F.conv_sub_bool ?_)
    refine PySem.W.KFB.if_not rfl ?_
    refine wpAny_bind (wpAny_of_eq (a := [Value.ref x]) (by kernel_rfl) ?_)
    exact wpAny_bind (wpAny_mono h (fun b s₁ hb => wpAny_pure ⟨b, rfl, hb⟩) fun _ _ y => y)
  · rintro obj s₁ ⟨b, rfl, hq⟩
    exact ⟨rfl, PySem.F.args_object_init_2 _ _, object_init_meets PySem.F.called_bool.init.lookup PySem.F.called_bool.made (by decide) prog w A.in1 _ s₁ ⟨rfl, rfl, hq⟩⟩
end
end OwnX

end
section
set_option Elab.async false
set_option linter.all false
set_option maxRecDepth 100000
set_option maxHeartbeats 4000000
/-! The head's facts by a Hook of one Bool, defs at any address; calls of such defs. -/
namespace Hk
open PySem PySem.Spec PyProof.Rows L2
open He (ga ma ba eqO eqO_ok frG frG_in)
open He5 (DefA fnA asA wf)

def obsE (ex : PySem.W.Frag → Bool) (fn : List DefA) (K : PySem.W.Frag) : He.AlD := (ex K && fn.all fun d => d.ok K, fn.map fun d => fnA K (d.at_ K))
def valE (fn : List DefA) : He.AlD := (true, fn.map DefA.val)
def SaysE (ex : PySem.W.Frag → Bool) (fn : List DefA) (K : PySem.W.Frag) : Prop := obsE ex fn K = valE fn
def obsEG (n : Nat) (ex : PySem.W.Frag → Bool) (fn : List DefA) (g : Addr → Option Obj) : He.AlD := obsE ex fn (frG g (asA g n))
def hookE (n : Nat) (ex : PySem.W.Frag → Bool) (fn : List DefA) : PySem.W.Hook where
  α := He.AlD
  obs := fun s => obsEG n ex fn s.heap.get?
  val := fun _ => valE fn
  says := fun _ h => ∃ K : PySem.W.Frag, K.In h ∧ SaysE ex fn K
  of := fun _ _ e => ⟨_, frG_in, e⟩
  keeps := fun _ _ _ ⟨K, hK, c⟩ k => ⟨K, PySem.W.Frag.In.keeps hK k, c⟩
theorem obsEG_eq {n : Nat} {ex : PySem.W.Frag → Bool} {fn : List DefA} {g : Addr → Option Obj} {s : Shared} (h : ∀ a, g a = s.heap.get? a) : obsEG n ex fn g = (hookE n ex fn).obs s := by
  have e : g = s.heap.get? := funext h
  rw [e] <;> rfl
section
variable {ex : PySem.W.Frag → Bool} {fn : List DefA} {K : PySem.W.Frag}
theorem SaysE.more (c : SaysE ex fn K) : ex K = true :=
  (ba (show (ex K && fn.all fun d => d.ok K) = true from congrArg (fun z : He.AlD => z.1) c)).1
theorem SaysE.def_ (c : SaysE ex fn K) (i : Nat) {d : DefA} (h : fn[i]? = some d := by rfl) : ∃ fd, FunD K d.name d.qual d.params d.body d.scope (d.dvs K) (d.kws K) (d.at_ K) fd := by
  have c2 := (ba (show (ex K && fn.all fun d => d.ok K) = true from congrArg (fun z : He.AlD => z.1) c)).2
  have e : fn.map (fun d => fnA K (d.at_ K)) = fn.map DefA.val := congrArg (fun z : He.AlD => z.2) c
  have e2 : (fn.map fun d => fnA K (d.at_ K))[i]? = (fn.map DefA.val)[i]? := by rw [e]
  rw [List.getElem?_map, List.getElem?_map, h] at e2
  exact DefA.funD (Option.some.inj e2) (List.all_eq_true.mp c2 d (List.mem_of_getElem? h))
end

/-! ### facts as Bools -/
/-- the getter's address of the property f of the class x -/
def pg (K : PySem.W.Frag) (x f : Str) : Addr := wf K (ga K x) "property" f
/-- the static method's def -/
def sg (K : PySem.W.Frag) (x f : Str) : Addr := wf K (ga K x) "staticmethod" f
def cg (K : PySem.W.Frag) (x f : Str) : Addr := wf K (ga K x) "classmethod" f
def mt (K : PySem.W.Frag) (x f : Str) : Addr := ma K (ga K x) f
/-- the module's name is this value -/
def nsB (K : PySem.W.Frag) (x : Str) (r : Option Value) : Bool := eqO (PySem.W.nsIn K mainGlobals x) (some r)
def selfB (K : PySem.W.Frag) (x : Str) : Bool := PySem.W.selfFirst K (ga K x)
def propB (K : PySem.W.Frag) (x f : Str) : Bool := eqO (PySem.W.findIn K (.ref (ga K x)) f) (some (some (.ref (mt K x f)))) && (eqO (PySem.W.specialIn K (.ref (mt K x f)) "__get__") (some (some (.builtin "property.__get__"))) &&
  (decide (PySem.W.takesIn K (.ref (mt K x f)) = some true) && (match PySem.W.recIn K (mt K x f) "property" with
    | some (.ref _ :: _) => true
    | _ => false)))
theorem prop_ok {K : PySem.W.Frag} {x f : Str} (h : propB K x f = true) : PropOf K (ga K x) f (mt K x f) (pg K x f) := by
  obtain ⟨h1, h⟩ := ba h
  obtain ⟨h2, h⟩ := ba h
  obtain ⟨h3, h4⟩ := ba h
  refine ⟨eqO_ok h1, eqO_ok h2, of_decide_eq_true h3, ?_⟩
  unfold pg wf
  show ∃ rest, PySem.W.recIn K (mt K x f) "property" = some (.ref (match PySem.W.recIn K (mt K x f) "property" with | some (.ref f :: _) => f | _ => 0) :: rest)
  split at h4
  · rename_i g r e
    exact ⟨r, by rw [e]⟩
  · cases h4
def statB (K : PySem.W.Frag) (x f : Str) : Bool := He5.wrapB K (ga K x) "staticmethod" "staticmethod.__get__" f && (PySem.W.keepIn K (.ref (sg K x f)))
def readB (K : PySem.W.Frag) (x : Str) : Bool := PySem.W.readsIn K (ga K x) (.type "type") && eqO (PySem.W.specialIn K (.ref (ga K x)) "__getattribute__") (some (some (.builtin "type.__getattribute__")))
theorem read_ok {K : PySem.W.Frag} {x : Str} (h : readB K x = true) : ClX.CRead K (ga K x) (.type "type") := by
  obtain ⟨h1, h2⟩ := ba h
  exact ⟨h1, eqO_ok h2⟩
/-- the class's value v -/
def cvalB (K : PySem.W.Frag) (x f : Str) (v : V) : Bool := match PySem.W.findCls K (.ref (ga K x)) (.type "type") f with
  | some (.val u) => He.relB v u
  | _ => false
theorem cval_ok {K : PySem.W.Frag} {x f : Str} {v : V} (h : cvalB K x f v = true) : ∃ u, ClX.CVal K (ga K x) (.type "type") f v u := by
  unfold cvalB at h
  split at h
  · rename_i u e
    exact ⟨u, e, He.relB_ok h⟩
  · cases h
/-- an own error class: bm its bases -/
def excB (K : PySem.W.Frag) (x : Str) (bm : List Value) : Bool := PySem.W.excIn K (ga K x) bm "ValueError.__new__" && (PySem.W.keepIn K (.ref (ga K x)) && (decide (PySem.W.subIn K (.ref (ga K x)) (.type "BaseException") = some true) && decide (PySem.W.typeIn K (.ref (ga K x)) = some (.type "type"))))
structure ExcF (K : PySem.W.Frag) (x : Str) (bm : List Value) : Prop where
  ex : PySem.W.excIn K (ga K x) bm "ValueError.__new__" = true
  kp : PySem.W.keepIn K (.ref (ga K x)) = true
  sb : PySem.W.subIn K (.ref (ga K x)) (.type "BaseException") = some true
  ty : PySem.W.typeIn K (.ref (ga K x)) = some (.type "type")
theorem exc_ok {K : PySem.W.Frag} {x : Str} {bm : List Value} (c : excB K x bm = true) : ExcF K x bm := by
  obtain ⟨c1, c⟩ := ba c
  obtain ⟨c2, c⟩ := ba c
  obtain ⟨c3, c4⟩ := ba c
  exact ⟨c1, c2, of_decide_eq_true c3, of_decide_eq_true c4⟩
/-- the module's names as the table tells them -/
def NsAll (K : PySem.W.Frag) (mg : Str → Option Value) : Prop := ∀ x r, PySem.W.nsIn K mainGlobals x = some r → mg x = r
theorem nsAll_of {K : PySem.W.Frag} {h : Heap} {mg : Str → Option Value} (X : K.In h) (G : h.Ns mainGlobals mg) : NsAll K mg := fun x r e => by
  cases r with
  | none => exact PySem.W.mg_none_of X G e
  | some v => exact PySem.W.mg_of X G e
theorem ns_ok {K : PySem.W.Frag} {mg : Str → Option Value} {x : Str} {r : Option Value} (N : NsAll K mg) (c : nsB K x r = true) : mg x = r := N x r (eqO_ok c)
theorem glo_ok {K : PySem.W.Frag} {mg : Str → Option Value} {x : Str} (N : NsAll K mg) (c : (He.Fa.glo x).ok K = true) : mg x = some (.ref (ga K x)) := N x _ (eqO_ok c)
theorem free_ok {K : PySem.W.Frag} {mg : Str → Option Value} {x : Str} (N : NsAll K mg) (c : (He.Fa.free x).ok K = true) : mg x = none := N x _ (eqO_ok c)

/-! ### defs that keep promises -/
section
variable {P : Program} {w : World} {K : PySem.W.Frag} {mg : Str → Option Value} {base : Heap}
/-- the module's def x keeps the promise -/
structure GOk (P : Program) (w : World) (K : PySem.W.Frag) (mg : Str → Option Value) (base : Heap) (CX : CXT) (k : Nat) (x : Str) (ps : List Str) (sp : Sp) : Prop where
  g : mg x = some (.ref (ga K x))
  ex : ∃ fd, PySem.W.keepIn K (.ref (ga K x)) = true ∧ Binds K fd ps [] ∧ FnOk P w K mg base CX k (ga K x) fd ps sp
theorem GOk.mono {CX : CXT} {j k : Nat} {x : Str} {ps : List Str} {sp : Sp} (G : GOk P w K mg base CX j x ps sp) (h : j ≤ k) : GOk P w K mg base CX k x ps sp :=
  let ⟨fd, a, b, c⟩ := G.ex
  ⟨G.g, fd, a, b, c.mono h⟩
theorem GOk.imp {CX : CXT} {k : Nat} {x : Str} {ps : List Str} {sp sp' : Sp} (G : GOk P w K mg base CX k x ps sp) (h : ∀ vs H Q E, sp' vs H Q E → sp vs H Q E) : GOk P w K mg base CX k x ps sp' :=
  let ⟨fd, a, b, c⟩ := G.ex
  ⟨G.g, fd, a, b, c.imp h⟩
/-- a method, a getter, a static method at an address -/
structure AOk (P : Program) (w : World) (K : PySem.W.Frag) (mg : Str → Option Value) (base : Heap) (CX : CXT) (k : Nat) (a : Addr) (ps : List Str) (sp : Sp) : Prop where
  ex : ∃ fd, Binds K fd ps [] ∧ FnOk P w K mg base CX k a fd ps sp
theorem AOk.mono {CX : CXT} {j k : Nat} {a : Addr} {ps : List Str} {sp : Sp} (G : AOk P w K mg base CX j a ps sp) (h : j ≤ k) : AOk P w K mg base CX k a ps sp :=
  let ⟨fd, b, c⟩ := G.ex
  ⟨fd, b, c.mono h⟩
end
section
variable {X : Cx} {CX : CXT} {k : Nat} {x : Str} {ps : List Str} {sp : Sp} {E : XK} {e : Expr} {es : List Expr} {p pos apos : Pos} {t : TA} {ta : TE} {cls m : Str} {C : Addr} {o : Expr} {a b : Expr} {tb : TE}
/-- f(e, ..) -/
theorem pe_g (G : GOk X.prog X.w X.K X.mg X.base CX k x ps sp) (hr : Room k X.A) (hx : Passes CX X E) (ha : PA X (e :: es) t) (hg : Gl X x := by rfl)
    (hdb : (x == ("__debug__" : Str)) = false := by decide) (he : starEach (e :: es) X.env = (false, eval e X.env) :: starEach es X.env := by rfl) (hpl : (backTo pos (starEach es X.env)).any (·.1) = false := by rfl) :
    PE X (.Call (.Name x p) (e :: es) [] pos) (tCall sp [] E t) := by
  obtain ⟨fd, h1, h2, h3⟩ := G.ex
  exact pe_call h3 hr hg G.g h1 h2 .nil hx ha hdb he hpl
theorem pe_g0 (G : GOk X.prog X.w X.K X.mg X.base CX k x ps sp) (hr : Room k X.A) (hx : Passes CX X E) (hg : Gl X x := by rfl) (hdb : (x == ("__debug__" : Str)) = false := by decide) : PE X (.Call (.Name x p) [] [] pos) (tCall sp [] E tNil) := by
  obtain ⟨fd, h1, h2, h3⟩ := G.ex
  exact pe_call0 h3 hr hg G.g h1 h2 .nil hx hdb
/-- o.m(e, ..) -/
theorem pe_m {pl : Sem Bool} (G : AOk X.prog X.w X.K X.mg X.base CX k (ma X.K C m) ps sp) (c : Cls X.K C) (hm : Meth X.K C m (ma X.K C m)) (hr : Room k X.A) (hx : Passes CX X E) (he : PE X o ta) (ha : PA X (e :: es) t)
    (hst : starEach (e :: es) X.env = (false, eval e X.env) :: starEach es X.env := by rfl) (hpl : (backTo pos (starEach es X.env)).any (·.1) = false := by rfl)
    (ht : eval (.Call (.Attribute o m apos) (e :: es) [] pos) X.env = (do
      let ov ← eval o X.env
      standAt apos.atName
      let (f, first) ← holding [ov] (getMethod ov m pl)
      callWith pos f first (backTo pos (starEach (e :: es) X.env)) (backToKw pos (keywordEach [] X.env))) := by rfl) :
    PE X (.Call (.Attribute o m apos) (e :: es) [] pos) (tMeth C m sp [] E ta t) := by
  obtain ⟨fd, h2, h3⟩ := G.ex
  exact pe_meth he c hm h3 hr h2 .nil hx ha hst hpl ht
/-- o.f, a property -/
theorem pe_p {pr a' : Addr} (G : AOk X.prog X.w X.K X.mg X.base CX k a' ps sp) (c : Cls X.K C) (hp : PropOf X.K C m pr a') (hr : Room (k + 1) X.A) (hx : Passes CX X.nox E) (he : PE X o ta)
    (hab : attributeBase o m X.env (eval o X.env) = eval o X.env := by rfl) : PE X (.Attribute o m pos) (tProp C sp [] E ta) := by
  obtain ⟨fd, h2, h3⟩ := G.ex
  exact pe_prop he c hp h3 hr h2 .nil hx hab
theorem op_bin {op : Operator} (G : AOk X.prog X.w X.K X.mg X.base CX k f ps sp) (hc : PySem.W.selfFirst X.K C = true) (M : Meth X.K C (PySem.dunder op.info.2) f) (hr : Room k X.A) (hx : Passes CX X E) : OpR X (binaryOp op) (OwnX.rOwn C sp E) := by
  obtain ⟨fd, h2, h3⟩ := G.ex
  exact OwnX.op_bin hc M h3 hr h2 hx
theorem op_cmp {op : CmpOp} (G : AOk X.prog X.w X.K X.mg X.base CX k f ps sp) (hop : ∀ a b, compareOp op a b = richCompare op a b) (M : Meth X.K C (cmpInfo op).2.1 f) (hr : Room k X.A) (hx : Passes CX X E) : OpR X (compareOp op) (OwnX.rOwn C sp E) := by
  obtain ⟨fd, h2, h3⟩ := G.ex
  exact OwnX.op_cmp hop M h3 hr h2 hx
theorem un_inv (G : AOk X.prog X.w X.K X.mg X.base CX k f ps sp) (M : Meth X.K C "__invert__" f) (hr : Room k X.A) (hx : Passes CX X E) : UnR X (unaryOp .Invert) (OwnX.rOwn1 C sp E) := by
  obtain ⟨fd, h2, h3⟩ := G.ex
  exact OwnX.un_inv M h3 hr h2 hx
theorem pt_own (G : AOk X.prog X.w X.K X.mg X.base CX k f ps sp) (M : Meth X.K C "__bool__" f) (hr : Room k X.A) (hx : Passes CX X E) (ha : PE X e ta)
    (he : ∀ whole, isTrue e X.env whole = (do let v ← whole; standAt e.pos; holding [v] (truthy v)) := by intro _; rfl) : PT X e (fun σ H Q => ta σ H fun x H' => OwnX.rTruth C sp E x H' Q) := by
  obtain ⟨fd, h2, h3⟩ := G.ex
  exact OwnX.pt_own ha M h3 hr h2 hx he
/-- bool(x), x an own instance -/
theorem call_bool (G : AOk X.prog X.w X.K X.mg X.base CX k f ps sp) (M : Meth X.K C "__bool__" f) (hr : Room (k + 2) X.A) (hx : Passes CX X E) : CallR X (.type "bool") (fun xs H Q => ∃ x, xs = [x] ∧ OwnX.rTruth C sp E x H fun b H' => Q (.bl b) H') := by
  obtain ⟨fd, h2, h3⟩ := G.ex
  intro pins s σ H xs us Q I r h
  obtain ⟨x, rfl, a, dx, fs, rfl, ha, q⟩ := h
  obtain ⟨u, rfl, ru⟩ := r.one
  cases (show u = Value.ref a from ru)
  have hr2 : Room k X.A.in1.in1 := (show Room (k + 1) X.A.in1 from Room.in1 hr).in1
  refine OwnX.bool_own (wpAny_mono (OwnX.truth_at I ha M (OwnX.run_call (us := [.ref a]) (vs := [.ref a]) h3 hr2 I.env0.in1.in1 h2 hx I (.cons rfl .nil) q)) (fun b s' z => ?_) fun _ _ y => y)
  obtain ⟨H', I', q'⟩ := z
  exact ⟨.bl b, H', I', rfl, q'⟩
/-- C(e, ..) -/
theorem pe_mk (M : Mk X.K C f) (G : AOk X.prog X.w X.K X.mg X.base CX k f ps sp) (hm : X.mg x = some (.ref C)) (hr : Room (k + 1) X.A) (hx : Passes CX X E) (ha : PA X (e :: es) t) (hg : Gl X x := by rfl)
    (hdb : (x == ("__debug__" : Str)) = false := by decide) (he : starEach (e :: es) X.env = (false, eval e X.env) :: starEach es X.env := by rfl) (hpl : (backTo pos (starEach es X.env)).any (·.1) = false := by rfl) :
    PE X (.Call (.Name x p) (e :: es) [] pos) (tMake C sp [] E t) := by
  obtain ⟨fd, h2, h3⟩ := G.ex
  exact pe_make M h3 hr hg hm h2 .nil hx ha hdb he hpl
end
/-! ### static methods called off the class -/
/-- e.m(..), e the class at C -/
def tStat (C : Addr) (sp : Sp) (E : XK) (ta : TE) (t : TA) : TE := fun σ H Q => ta σ H fun x H1 => x = .ref C ∧ t σ H1 fun vs H2 => sp vs H2 Q E
section
variable {X : Cx} {CX : CXT} {k : Nat} {x : Str} {ps : List Str} {sp : Sp} {E : XK} {e : Expr} {es : List Expr} {p pos apos : Pos} {t : TA} {ta : TE} {m : Str} {o : Expr}
theorem pe_s {pl : Sem Bool} (G : AOk X.prog X.w X.K X.mg X.base CX k (sg X.K x m) ps sp) (r : readB X.K x = true) (c : statB X.K x m = true) (hr : Room k X.A) (hx : Passes CX X E) (hex : PE X o ta) (ha : PA X (e :: es) t)
    (hst : starEach (e :: es) X.env = (false, eval e X.env) :: starEach es X.env := by rfl) (hpl : (backTo pos (starEach es X.env)).any (·.1) = false := by rfl)
    (ht : eval (.Call (.Attribute o m apos) (e :: es) [] pos) X.env = (do
      let ov ← eval o X.env
      standAt apos.atName
      let (f, first) ← holding [ov] (getMethod ov m pl)
      callWith pos f first (backTo pos (starEach (e :: es) X.env)) (backToKw pos (keywordEach [] X.env))) := by rfl) :
    PE X (.Call (.Attribute o m apos) (e :: es) [] pos) (tStat (ga X.K x) sp E ta t) := by
  obtain ⟨fd, h2, h3⟩ := G.ex
  obtain ⟨c1, c2⟩ := ba c
  obtain ⟨w1, rest, w2⟩ := He5.wrapB_ok c1
  have R := read_ok r
  refine ⟨fun pins s σ H Q I h => ?_⟩
  refine PySem.W.methodCall_KW (pl := pl) (thn (hex.run pins s σ H _ I h) fun u s1 ⟨y, H1, I1, rx, ex, q⟩ => ?_) ht
  subst ex
  obtain rfl : u = Value.ref (ga X.K x) := rx
  refine PySem.W.method_cls I1.kIn R.ga (PySem.W.cls_bind I1.kIn R.rd w1 (wpAny_call (PySem.W.sm_get (s := { s1 with toks := s1.toks + 1 }) I1.kIn w2 (PySem.W.handed_on rfl ?_))))
  have I2 := I1.tok (s1.toks + 1)
  refine PySem.W.callWith_K (h₀ := X.base) I2.ok.mod.kin c2 (thn (ha.run pos pins _ σ H1 _ I2 q) fun us s3 ⟨vs, H2, I3, rv, q2⟩ => ⟨I3.kIn, ?_⟩) hst hpl
  exact OwnX.run_call h3 hr I3.env0 h2 hx I3 rv q2
end
/-! ### a def of the text and its promise -/
section
variable {P : Program} {w : World} {K : PySem.W.Frag} {mg : Str → Option Value} {base : Heap} {nm qual : Str} {st : Stmt} {N ps : List Str} {k : Nat} {CX : CXT} {sp : Sp} {a : Addr}
theorem mkFX (F : ∃ fd, FunD K nm qual (defArgs st) (defBody st) (defScope st) [] [] a fd)
    (hb : ∀ (kV doc pm : Value) (an : Option Addr) (cdv ct : Value) (us : List Value), us.length = ps.length → bindArgs (PySem.W.fnOf nm qual (defArgs st) (defBody st) (defScope st) .none kV doc pm an cdv ct) ⟨us, []⟩ = pure (ps.zip us))
    (S : FnScope N ps (defScope st)) (len : ∀ vs H Q E, sp vs H Q E → vs.length = ps.length)
    (hbody : ∀ (cdv : Value) (A : Around) (outer : List Env) (s : Shared) (H : Hp) (vs : List V) (Q : VK) (E : XK), Room k (A.deeper (envOfC qual (defScope st) s.heap.objs.size a cdv)) → sp vs H Q E →
      ∃ t, PSs (cxOf CX P w K mg base N qual (defScope st) a cdv A outer s H E) (defBody st) t ∧ t { nx := fun _ H' => Q .non H', rt := Q } (start N vs) H) :
    ∃ fd, PySem.W.keepIn K (.ref a) = true ∧ Binds K fd ps [] ∧ FnOk P w K mg base CX (k + 1) a fd ps sp := by
  obtain ⟨fd, F⟩ := F
  exact ⟨fd, F.kp, F.bindsN hb, F.ok S len hbody⟩
theorem mkGX (g : mg nm = some (.ref (ga K nm))) (F : ∃ fd, FunD K nm qual (defArgs st) (defBody st) (defScope st) [] [] (ga K nm) fd)
    (hb : ∀ (kV doc pm : Value) (an : Option Addr) (cdv ct : Value) (us : List Value), us.length = ps.length → bindArgs (PySem.W.fnOf nm qual (defArgs st) (defBody st) (defScope st) .none kV doc pm an cdv ct) ⟨us, []⟩ = pure (ps.zip us))
    (S : FnScope N ps (defScope st)) (len : ∀ vs H Q E, sp vs H Q E → vs.length = ps.length)
    (hbody : ∀ (cdv : Value) (A : Around) (outer : List Env) (s : Shared) (H : Hp) (vs : List V) (Q : VK) (E : XK), Room k (A.deeper (envOfC qual (defScope st) s.heap.objs.size (ga K nm) cdv)) → sp vs H Q E →
      ∃ t, PSs (cxOf CX P w K mg base N qual (defScope st) (ga K nm) cdv A outer s H E) (defBody st) t ∧ t { nx := fun _ H' => Q .non H', rt := Q } (start N vs) H) : GOk P w K mg base CX (k + 1) nm ps sp :=
  ⟨g, mkFX F hb S len hbody⟩
theorem mkAX (F : ∃ fd, FunD K nm qual (defArgs st) (defBody st) (defScope st) [] [] a fd)
    (hb : ∀ (kV doc pm : Value) (an : Option Addr) (cdv ct : Value) (us : List Value), us.length = ps.length → bindArgs (PySem.W.fnOf nm qual (defArgs st) (defBody st) (defScope st) .none kV doc pm an cdv ct) ⟨us, []⟩ = pure (ps.zip us))
    (S : FnScope N ps (defScope st)) (len : ∀ vs H Q E, sp vs H Q E → vs.length = ps.length)
    (hbody : ∀ (cdv : Value) (A : Around) (outer : List Env) (s : Shared) (H : Hp) (vs : List V) (Q : VK) (E : XK), Room k (A.deeper (envOfC qual (defScope st) s.heap.objs.size a cdv)) → sp vs H Q E →
      ∃ t, PSs (cxOf CX P w K mg base N qual (defScope st) a cdv A outer s H E) (defBody st) t ∧ t { nx := fun _ H' => Q .non H', rt := Q } (start N vs) H) : AOk P w K mg base CX (k + 1) a ps sp :=
  let ⟨fd, _, b, c⟩ := mkFX F hb S len hbody
  ⟨fd, b, c⟩
theorem mkF (F : ∃ fd, FunD K nm qual (defArgs st) (defBody st) (defScope st) [] [] a fd)
    (hb : ∀ (kV doc pm : Value) (an : Option Addr) (cdv ct : Value) (us : List Value), us.length = ps.length → bindArgs (PySem.W.fnOf nm qual (defArgs st) (defBody st) (defScope st) .none kV doc pm an cdv ct) ⟨us, []⟩ = pure (ps.zip us))
    (S : FnScope N ps (defScope st)) (len : ∀ vs H Q E, sp vs H Q E → vs.length = ps.length)
    (hbody : ∀ (cdv : Value) (A : Around) (outer : List Env) (s : Shared) (H : Hp) (vs : List V) (Q : VK) (E : XK), Room k (A.deeper (envOfC qual (defScope st) s.heap.objs.size a cdv)) → sp vs H Q E →
      ∃ t, PSs (cxOf CX P w K mg base N qual (defScope st) a cdv A outer s H E).nox (defBody st) t ∧ t { nx := fun _ H' => Q .non H', rt := Q } (start N vs) H) :
    ∃ fd, PySem.W.keepIn K (.ref a) = true ∧ Binds K fd ps [] ∧ FnOk P w K mg base CX (k + 1) a fd ps sp := by
  obtain ⟨fd, F⟩ := F
  exact ⟨fd, F.kp, F.bindsN hb, F.ok S len fun cdv A outer s H vs Q E hr h => let ⟨t, h1, h2⟩ := hbody cdv A outer s H vs Q E hr h; ⟨t, h1.nox, h2⟩⟩
theorem mkG (g : mg nm = some (.ref (ga K nm))) (F : ∃ fd, FunD K nm qual (defArgs st) (defBody st) (defScope st) [] [] (ga K nm) fd)
    (hb : ∀ (kV doc pm : Value) (an : Option Addr) (cdv ct : Value) (us : List Value), us.length = ps.length → bindArgs (PySem.W.fnOf nm qual (defArgs st) (defBody st) (defScope st) .none kV doc pm an cdv ct) ⟨us, []⟩ = pure (ps.zip us))
    (S : FnScope N ps (defScope st)) (len : ∀ vs H Q E, sp vs H Q E → vs.length = ps.length)
    (hbody : ∀ (cdv : Value) (A : Around) (outer : List Env) (s : Shared) (H : Hp) (vs : List V) (Q : VK) (E : XK), Room k (A.deeper (envOfC qual (defScope st) s.heap.objs.size (ga K nm) cdv)) → sp vs H Q E →
      ∃ t, PSs (cxOf CX P w K mg base N qual (defScope st) (ga K nm) cdv A outer s H E).nox (defBody st) t ∧ t { nx := fun _ H' => Q .non H', rt := Q } (start N vs) H) : GOk P w K mg base CX (k + 1) nm ps sp :=
  ⟨g, mkF F hb S len hbody⟩
theorem mkA (F : ∃ fd, FunD K nm qual (defArgs st) (defBody st) (defScope st) [] [] a fd)
    (hb : ∀ (kV doc pm : Value) (an : Option Addr) (cdv ct : Value) (us : List Value), us.length = ps.length → bindArgs (PySem.W.fnOf nm qual (defArgs st) (defBody st) (defScope st) .none kV doc pm an cdv ct) ⟨us, []⟩ = pure (ps.zip us))
    (S : FnScope N ps (defScope st)) (len : ∀ vs H Q E, sp vs H Q E → vs.length = ps.length)
    (hbody : ∀ (cdv : Value) (A : Around) (outer : List Env) (s : Shared) (H : Hp) (vs : List V) (Q : VK) (E : XK), Room k (A.deeper (envOfC qual (defScope st) s.heap.objs.size a cdv)) → sp vs H Q E →
      ∃ t, PSs (cxOf CX P w K mg base N qual (defScope st) a cdv A outer s H E).nox (defBody st) t ∧ t { nx := fun _ H' => Q .non H', rt := Q } (start N vs) H) : AOk P w K mg base CX (k + 1) a ps sp :=
  let ⟨fd, _, b, c⟩ := mkF F hb S len hbody
  ⟨fd, b, c⟩
end
theorem lk_hd {f : Str} {v : V} {l : List (Str × V)} : ((f, v) :: l).lookup f = some v := by simp [List.lookup]
theorem same_upd {H : Hp} {p : Addr} {o : HO} (h : H p = none) : Same H (upd H p o) := fun b x e => by
  rw [upd_ne (ne_of_none e h)]
  exact e
/-- isinstance(x, C), x an instance of an own class -/
theorem call_isiO {X : Cx} : CallR X (.builtin "isinstance") (rIsi X.K) := call_isi
/-! ### isinstance: what the classes must say -/
structure IsiF (K : PySem.W.Frag) (C : Addr) : Prop where
  cl : Cls K C
  ha : PySem.W.findIn K (.ref C) "__class__" = some (some (.builtin "object.__class__"))
  hn : PySem.W.specialIn K (.builtin "object.__class__") "__get__" = some (some (.builtin "getset_descriptor.__get__"))
  ht : PySem.W.takesIn K (.builtin "object.__class__") = some true
  hm : PySem.W.mroIn K C (.type "object") = some true
def isiB (K : PySem.W.Frag) (x : Str) : Bool := (He.Fa.cls x).ok K && (eqO (PySem.W.findIn K (.ref (ga K x)) "__class__") (some (some (.builtin "object.__class__"))) && (eqO (PySem.W.specialIn K (.builtin "object.__class__") "__get__") (some (some (.builtin "getset_descriptor.__get__"))) &&
  (decide (PySem.W.takesIn K (.builtin "object.__class__") = some true) && decide (PySem.W.mroIn K (ga K x) (.type "object") = some true))))
theorem isi_ok {K : PySem.W.Frag} {x : Str} (h : isiB K x = true) : IsiF K (ga K x) := by
  obtain ⟨h1, h⟩ := ba h
  obtain ⟨h2, h⟩ := ba h
  obtain ⟨h3, h⟩ := ba h
  obtain ⟨h4, h5⟩ := ba h
  exact ⟨He.cls_ok h1, eqO_ok h2, eqO_ok h3, of_decide_eq_true h4, of_decide_eq_true h5⟩
theorem IsiF.ty {K : PySem.W.Frag} {C a dx : Addr} {fs : List (Str × V)} {H : Hp} (F : IsiF K C) (e : H a = some (.ins C dx fs)) : TyX K H (.ref a) (.ref C) := .base (.ins e F.cl F.ha F.hn F.ht F.hm)
def excCB (K : PySem.W.Frag) (x : Str) : Bool := eqO (PySem.W.findIn K (.ref (ga K x)) "__getattribute__") (some (some (.builtin "BaseException.__getattribute__"))) && (eqO (PySem.W.findIn K (.ref (ga K x)) "__getattr__") (some none) &&
  (decide (PySem.W.subIn K (.ref (ga K x)) (.type "BaseException") = some true) && (PySem.W.hasDictIn K (ga K x) && (eqO (PySem.W.findIn K (.ref (ga K x)) "__class__") (some (some (.builtin "object.__class__"))) && (eqO (PySem.W.specialIn K (.builtin "object.__class__") "__get__") (some (some (.builtin "getset_descriptor.__get__"))) &&
  (decide (PySem.W.takesIn K (.builtin "object.__class__") = some true) && decide (PySem.W.mroIn K (ga K x) (.type "object") = some true)))))))
theorem excC_ok {K : PySem.W.Frag} {x : Str} (h : excCB K x = true) : ExcC K (ga K x) := by
  obtain ⟨h1, h⟩ := ba h
  obtain ⟨h2, h⟩ := ba h
  obtain ⟨h3, h⟩ := ba h
  obtain ⟨h4, h⟩ := ba h
  obtain ⟨h5, h⟩ := ba h
  obtain ⟨h6, h⟩ := ba h
  obtain ⟨h7, h8⟩ := ba h
  exact ⟨eqO_ok h1, eqO_ok h2, of_decide_eq_true h3, h4, eqO_ok h5, eqO_ok h6, of_decide_eq_true h7, of_decide_eq_true h8⟩
def kitB (K : PySem.W.Frag) (x y : Str) (b : Bool) : Bool := decide (PySem.W.kitOne K (.ref (ga K x)) (.ref (ga K y)) = some b)
/-! ### is True, is False -/
def rIsBo : R2 := fun x y H Q => ∃ b : Bool, y = .bl b ∧ Q (.bl (decide (x = .bl b))) H
section
variable {X : Cx}
theorem op_isB : OpR X (compareOp .Is) rIsBo := by
  intro pins s σ H x y v u Q I rx ry h
  obtain ⟨b, rfl, q⟩ := h
  cases (show u = Value.bool b from ry)
  by_cases e : x = .bl b
  · subst e
    cases (show v = Value.bool b from rx)
    exact wpAny_is_self rfl ⟨.bl true, H, I, rfl, by simpa using q⟩
  · refine wpAny_is_other (by cases x <;> first | (cases rx; rfl) | (obtain ⟨t, rfl⟩ := rx; rfl)) (fun z => ?_) ⟨.bl false, H, I, rfl, by simpa [e] using q⟩
    cases x <;> first
      | (cases rx; exact e (by cases z; rfl))
      | (obtain ⟨t, rfl⟩ := rx; cases z)
      | (cases rx; cases z)
end
/-- a tuple of the module, as a thing with methods -/
def tupO (K : PySem.W.Frag) (x : Str) : Bool := match K.lookup (ga K x) with
  | some ⟨.type c, none, _, _⟩ => decide (c = "tuple")
  | _ => false
theorem tupO_ok {K : PySem.W.Frag} {x : Str} (h : tupO K x = true) (H : Hp) : tyV K "tuple" (.ref (ga K x)) H := by
  unfold tupO at h
  cases q : K.lookup (ga K x) with
  | none => rw [q] at h; cases h
  | some o =>
    obtain ⟨oc, od, dt, sl⟩ := o
    rw [q] at h
    cases oc with
    | type c =>
      cases od with
      | none => exact Or.inr (Or.inl ⟨rfl, _, q, congrArg Value.type (of_decide_eq_true h), rfl⟩)
      | some d => cases h
    | _ => cases od <;> cases h
/-- a statement, and what follows it from whatever it leaves -/
theorem seq_rest {A B : TS} {D : Ends} {σ : L2.St} {H : Hp} (W : L2.St → Hp → Prop) (h : ∀ nx : L2.St → Hp → Prop, (∀ σ' H', W σ' H' → nx σ' H') → A { D with nx := nx } σ H) (r : ∀ σ' H', W σ' H' → B D σ' H') : tSeq A B D σ H := h (B D) r
theorem dI (a b : Int) : decide (V.int a = V.int b) = decide (a = b) := by simp only [V.int.injEq]
theorem dS (a b : Str) : decide (V.str a = V.str b) = decide (a = b) := by simp only [V.str.injEq]
theorem dB (a b : Bool) : decide (V.bl a = V.bl b) = decide (a = b) := by simp only [V.bl.injEq]
theorem fmod_lo {a b : Int} (h : 0 < b) : 0 ≤ a.fmod b := by rw [Int.fmod_eq_emod_of_nonneg _ (Int.le_of_lt h)]; exact Int.emod_nonneg _ (by omega)
theorem fmod_hi {a b : Int} (h : 0 < b) : a.fmod b < b := by rw [Int.fmod_eq_emod_of_nonneg _ (Int.le_of_lt h)]; exact Int.emod_lt_of_pos _ h
theorem atI_of {α : Type} {xs : List α} {i : Int} (h0 : 0 ≤ i) (h1 : i < xs.length) : ∃ x, atI xs i = some x ∧ xs[i.toNat]? = some x := by
  obtain ⟨j, rfl⟩ : ∃ j : Nat, i = (j : Int) := ⟨i.toNat, by omega⟩
  have hj : j < xs.length := by omega
  refine ⟨xs[j], atI_nat (List.getElem?_eq_getElem hj), ?_⟩
  rw [Int.toNat_natCast]
  exact List.getElem?_eq_getElem hj
theorem atI_map {α β : Type} {f : α → β} {xs : List α} {i : Int} (h0 : 0 ≤ i) (h1 : i < xs.length) : ∃ x, atI (xs.map f) i = some (f x) ∧ xs[i.toNat]? = some x := by
  obtain ⟨y, h2, h3⟩ := atI_of (xs := xs.map f) h0 (by rw [List.length_map]; exact h1)
  rw [List.getElem?_map] at h3
  cases e : xs[i.toNat]? with
  | none => rw [e] at h3; cases h3
  | some x =>
    rw [e] at h3
    cases h3
    exact ⟨x, h2, rfl⟩
theorem seq_skip {A B : TS} {D : Ends} {σ : L2.St} {H : Hp} (h : ∀ nx : L2.St → Hp → Prop, nx σ H → A { D with nx := nx } σ H) (r : B D σ H) : tSeq A B D σ H := h (B D) r
section
variable {K : PySem.W.Frag} {wi : TI} {g : TG} {tb : TS} {D : Ends} {σ : L2.St} {H H1 : Hp}
/-- for k in range(..) -/
theorem tfor_rng {lo : Int} {n : Nat} (Pv : Nat → L2.St → Hp → Prop) (hw : ∀ R : It → Hp → Prop, R (Itr lo n) H1 → wi σ H R) (h0 : Pv 0 σ H1)
    (hs : ∀ (i : Nat) σ H (nx : L2.St → Hp → Prop), i < n → Pv i σ H → (∀ σ' H', Pv (i + 1) σ' H' → nx σ' H') → g (.int (lo + i)) σ H fun σ2 H2 => tb { D with nx := nx, ct := nx, bk := D.nx } σ2 H2) (hd : ∀ σ H, Pv n σ H → D.nx σ H) : tFor wi g tb D σ H :=
  hw _ (for_range Pv h0 (fun i σ H hi hp => hs i σ H _ hi hp fun _ _ q => q) hd)
/-- for x in a list that stands still -/
theorem tfor_lst {a : Addr} {xs : List V} (Pv : Nat → L2.St → Hp → Prop) (hw : ∀ R : It → Hp → Prop, R (Itl K a) H1 → wi σ H R) (h0 : Pv 0 σ H1) (hl : ∀ i σ H, i ≤ xs.length → Pv i σ H → SqL K H a xs)
    (hs : ∀ (i : Nat) x σ H (nx : L2.St → Hp → Prop), xs[i]? = some x → Pv i σ H → (∀ σ' H', Pv (i + 1) σ' H' → nx σ' H') → g x σ H fun σ2 H2 => tb { D with nx := nx, ct := nx, bk := D.nx } σ2 H2) (hd : ∀ σ H, Pv xs.length σ H → D.nx σ H) : tFor wi g tb D σ H :=
  hw _ (for_list Pv h0 hl (fun i x σ H hi hp => hs i x σ H _ hi hp fun _ _ q => q) hd)
theorem tfor_tup {a : Addr} {xs : List V} (Pv : Nat → L2.St → Hp → Prop) (hw : ∀ R : It → Hp → Prop, R (Itt K a) H1 → wi σ H R) (h0 : Pv 0 σ H1) (hl : ∀ i σ H, i ≤ xs.length → Pv i σ H → SqT K H a xs)
    (hs : ∀ (i : Nat) x σ H (nx : L2.St → Hp → Prop), xs[i]? = some x → Pv i σ H → (∀ σ' H', Pv (i + 1) σ' H' → nx σ' H') → g x σ H fun σ2 H2 => tb { D with nx := nx, ct := nx, bk := D.nx } σ2 H2) (hd : ∀ σ H, Pv xs.length σ H → D.nx σ H) : tFor wi g tb D σ H :=
  hw _ (for_tup Pv h0 hl (fun i x σ H hi hp => hs i x σ H _ hi hp fun _ _ q => q) hd)
end
theorem ty_SqT {K : PySem.W.Frag} {H : Hp} {a : Addr} {xs : List V} (h : SqT K H a xs) : TyX K H (.ref a) (.type "tuple") := by
  rcases h with (h | ⟨o, h⟩) | ⟨o, its, n, h1, h2, _⟩
  · exact .base (.tup h)
  · exact .fTuple h
  · exact .kTuple h1 h2
theorem ty_SqL {K : PySem.W.Frag} {H : Hp} {a : Addr} {xs : List V} (h : SqL K H a xs) : TyX K H (.ref a) (.type "list") := by
  rcases h with (h | ⟨o, h⟩) | ⟨o, its, n, h1, h2, _⟩
  · exact .base (.lst h)
  · exact .base (.frz h)
  · exact .kList h1 h2
theorem DpAll.len {K : PySem.W.Frag} {H : Hp} : ∀ {xs : List V} {ds : List PyData}, DpAll K H xs ds → xs.length = ds.length
  | _, _, .nil => rfl
  | _, _, .cons _ t => congrArg Nat.succ (DpAll.len t)
theorem DpAll.get {K : PySem.W.Frag} {H : Hp} : ∀ {xs : List V} {ds : List PyData} {i : Nat} {d : PyData}, DpAll K H xs ds → ds[i]? = some d → ∃ x, xs[i]? = some x ∧ Dp K H x d
  | _, _, _, _, .nil, e => by simp at e
  | _, _, 0, _, .cons h _, e => by simp at e; subst e; exact ⟨_, rfl, h⟩
  | _, _, i + 1, d, .cons _ t, e => by
    obtain ⟨x, h1, h2⟩ := DpAll.get (i := i) (d := d) t (by simpa using e)
    exact ⟨x, by simpa using h1, h2⟩
/-! ### calls in a try's body -/
section
variable {X : Cx} {CX : CXT} {k : Nat} {x : Str} {ps : List Str} {sp : Sp} {E : L2.St → XK} {e : Expr} {es : List Expr} {p pos apos : Pos} {t : TA} {ta : TE} {m : Str} {o : Expr} {C : Addr}
theorem pe_gS (G : GOk X.prog X.w X.K X.mg X.base CX k x ps sp) (hr : Room k X.A) (hx : ∀ σ, PassesAt CX X σ (E σ)) (ha : PA X (e :: es) t) (hg : Gl X x := by rfl)
    (hdb : (x == ("__debug__" : Str)) = false := by decide) (he : starEach (e :: es) X.env = (false, eval e X.env) :: starEach es X.env := by rfl) (hpl : (backTo pos (starEach es X.env)).any (·.1) = false := by rfl) :
    PE X (.Call (.Name x p) (e :: es) [] pos) (tCallS sp E t) := by
  obtain ⟨fd, h1, h2, h3⟩ := G.ex
  exact pe_callS h3 hr hg G.g h1 h2 hx ha hdb he hpl
def tStatS (C : Addr) (sp : Sp) (E : L2.St → XK) (ta : TE) (t : TA) : TE := fun σ H Q => ta σ H fun x H1 => x = .ref C ∧ t σ H1 fun vs H2 => sp vs H2 Q (E σ)
theorem pe_sS {pl : Sem Bool} {K : PySem.W.Frag} (G : AOk X.prog X.w X.K X.mg X.base CX k (sg K x m) ps sp) (r : readB K x = true) (c : statB K x m = true) (hr : Room k X.A) (hx : ∀ σ, PassesAt CX X σ (E σ)) (hex : PE X o ta) (ha : PA X (e :: es) t) (hK : X.K = K := by rfl)
    (hst : starEach (e :: es) X.env = (false, eval e X.env) :: starEach es X.env := by rfl) (hpl : (backTo pos (starEach es X.env)).any (·.1) = false := by rfl)
    (ht : eval (.Call (.Attribute o m apos) (e :: es) [] pos) X.env = (do
      let ov ← eval o X.env
      standAt apos.atName
      let (f, first) ← holding [ov] (getMethod ov m pl)
      callWith pos f first (backTo pos (starEach (e :: es) X.env)) (backToKw pos (keywordEach [] X.env))) := by rfl) :
    PE X (.Call (.Attribute o m apos) (e :: es) [] pos) (tStatS (ga K x) sp E ta t) := by
  subst hK
  obtain ⟨fd, h2, h3⟩ := G.ex
  obtain ⟨c1, c2⟩ := ba c
  obtain ⟨w1, rest, w2⟩ := He5.wrapB_ok c1
  have R := read_ok r
  refine ⟨fun pins s σ H Q I h => ?_⟩
  refine PySem.W.methodCall_KW (pl := pl) (thn (hex.run pins s σ H _ I h) fun u s1 ⟨y, H1, I1, rx, ex, q⟩ => ?_) ht
  subst ex
  obtain rfl : u = Value.ref (ga X.K x) := rx
  refine PySem.W.method_cls I1.kIn R.ga (PySem.W.cls_bind I1.kIn R.rd w1 (wpAny_call (PySem.W.sm_get (s := { s1 with toks := s1.toks + 1 }) I1.kIn w2 (PySem.W.handed_on rfl ?_))))
  have I2 := I1.tok (s1.toks + 1)
  refine PySem.W.callWith_K (h₀ := X.base) I2.ok.mod.kin c2 (thn (ha.run pos pins _ σ H1 _ I2 q) fun us s3 ⟨vs, H2, I3, rv, q2⟩ => ⟨I3.kIn, ?_⟩) hst hpl
  exact run_fnS h3 hr h2 (hx σ) I3 rv q2
/-- isinstance(e, C), e the exception that the suite holds, of whatever own class -/
theorem call_isEx {a : Addr} {oe : Obj} {cls : Value} {d : Option Addr} {pn : List (Addr × Obj)} (hz : Zc cls d oe) (hf : ∃ vs, oe.data = .fields vs) :
    CallR (X.suite a ((a, oe) :: pn)) (.builtin "isinstance") (fun xs H Q => ∃ D, cls = .ref D ∧ d = none ∧ ExcC X.K D ∧ rIsE X.K D a xs H Q) := by
  intro pins s σ H xs us Q I r h
  obtain ⟨D, rfl, rfl, c, q⟩ := h
  exact call_isE c hz hf pins s σ H xs us Q I r q
end
theorem op_notIn_seqK {X : Cx} {K : PySem.W.Frag} (h : X.K = K := by rfl) : OpR X (compareOp .NotIn) (rIn K true) := h ▸ op_notIn_seq
theorem op_in_seqK {X : Cx} {K : PySem.W.Frag} (h : X.K = K := by rfl) : OpR X (compareOp .In) (rIn K false) := h ▸ op_in_seq
theorem mkL {P : Program} {w : World} {K : PySem.W.Frag} {mg : Str → Option Value} {base : Heap} {nm qual : Str} {st : Stmt} {N ps : List Str} {k : Nat} {CX : CXT} {sp : Sp} {a : Addr} {fd : FuncData} (F : FunD K nm qual (defArgs st) (defBody st) (defScope st) [] [] a fd)
    (S : FnScope N ps (defScope st)) (len : ∀ vs H Q E, sp vs H Q E → vs.length = ps.length)
    (hbody : ∀ (cdv : Value) (A : Around) (outer : List Env) (s : Shared) (H : Hp) (vs : List V) (Q : VK) (E : XK), Room k (A.deeper (envOfC qual (defScope st) s.heap.objs.size a cdv)) → sp vs H Q E →
      ∃ t, PSs (cxOf CX P w K mg base N qual (defScope st) a cdv A outer s H E).nox (defBody st) t ∧ t { nx := fun _ H' => Q .non H', rt := Q } (start N vs) H) : FnOk P w K mg base CX (k + 1) a fd ps sp :=
  F.ok S len fun cdv A outer s H vs Q E hr h => let ⟨t, h1, h2⟩ := hbody cdv A outer s H vs Q E hr h; ⟨t, h1.nox, h2⟩
end Hk

end
section
set_option Elab.async false
set_option linter.all false
set_option maxRecDepth 100000
set_option maxHeartbeats 4000000
/-! Own error classes whose __init__ stores fields: facts by one Bool; C() without arguments. -/
namespace Hk
open PySem PySem.Spec PyProof.Rows L2
open He (ga ma ba eqO eqO_ok)
/-- the shape of such a class -/
def shapeB (K : PySem.W.Frag) (C : Addr) : Bool := match K.lookup C with
  | some ⟨.type "type", _, .cls c, v⟩ => (match c.mro, v.toList with
    | .ref D :: l, [_, _, _, _, some (.builtin n), _] => (D == C && n == "ValueError.__new__") && ((!c.hasDel && c.hasDict) && PySem.HandSPX.refsVE l)
    | _, _ => false)
  | _ => false
theorem shape_ok {K : PySem.W.Frag} {C : Addr} (h : shapeB K C = true) : ∃ nm q N bs bm sn sub ab col dd k0 k1 k2 k3 k5, K.lookup C = some (excClassObj nm q C N bs bm true sn sub ab col dd k0 k1 k2 k3 k5 "ValueError.__new__") ∧ PySem.HandSPX.refsVE bm = true := by
  unfold shapeB at h
  split at h
  · rename_i dd c v e
    split at h
    · rename_i D l a0 a1 a2 a3 n a5 em es
      obtain ⟨h1, h2⟩ := ba h
      obtain ⟨h11, h12⟩ := ba h1
      obtain ⟨h21, h22⟩ := ba h2
      obtain ⟨h3, h4⟩ := ba h21
      obtain rfl := beq_iff_eq.mp h11
      obtain rfl := beq_iff_eq.mp h12
      obtain ⟨nm, bs, mro, ns, qn, hd, sn, sub, ab, col, dl⟩ := c
      obtain ⟨v⟩ := v
      dsimp only at em es h3 h4
      obtain rfl : dl = false := by cases dl with | false => rfl | true => cases h3
      subst em es h4
      exact ⟨nm, qn, ns, bs, l, sn, sub, ab, col, dd, a0, a1, a2, a3, a5, e, h22⟩
    · cases h
  · cases h
def oexB (K : PySem.W.Frag) (x : Str) : Bool := (shapeB K (ga K x) && eqO (PySem.W.findIn K (.ref (ga K x)) "__setattr__") (some (some (.builtin "object.__setattr__")))) && ((decide (PySem.W.subIn K (.ref (ga K x)) (.type "BaseException") = some true) && decide (PySem.W.typeIn K (.ref (ga K x)) = some (.type "type"))) && (PySem.W.keepIn K (.ref (ga K x))))
theorem oex_ok {K : PySem.W.Frag} {x : Str} (h : oexB K x = true) : OexC K (ga K x) := by
  obtain ⟨h1, h2⟩ := ba h
  obtain ⟨h3, h4⟩ := ba h1
  obtain ⟨h5, h6⟩ := ba h2
  obtain ⟨h7, h8⟩ := ba h5
  exact ⟨shape_ok h3, eqO_ok h4, of_decide_eq_true h7, of_decide_eq_true h8, h6⟩
/-- its __init__ -/
def xinB (K : PySem.W.Frag) (x : Str) : Bool := eqO (PySem.W.findIn K (.ref (ga K x)) "__init__") (some (some (.ref (mt K x "__init__")))) && decide (PySem.W.typeIn K (.ref (mt K x "__init__")) = some (.type "function"))
structure XIn (K : PySem.W.Frag) (x : Str) : Prop where
  fi : PySem.W.findIn K (.ref (ga K x)) "__init__" = some (some (.ref (mt K x "__init__")))
  ty : PySem.W.typeIn K (.ref (mt K x "__init__")) = some (.type "function")
theorem xin_ok {K : PySem.W.Frag} {x : Str} (h : xinB K x = true) : XIn K x := let ⟨a, b⟩ := ba h; ⟨eqO_ok a, of_decide_eq_true b⟩
def noxB (K : PySem.W.Frag) (x f : Str) : Bool := eqO (PySem.W.findIn K (.ref (ga K x)) f) (some none)
section
variable {X : Cx} {CX : CXT} {k : Nat} {x : Str} {ps : List Str} {sp : Sp} {p pos : Pos}
/-- C(), C's own __init__ keeping sp -/
theorem pmk_oex0 {C fI : Addr} {fd : FuncData} (T : OexC X.K C) (iC : PySem.W.findIn X.K (.ref C) "__init__" = some (some (.ref fI))) (tI : PySem.W.typeIn X.K (.ref fI) = some (.type "function")) (F1 : FnOk X.prog X.w X.K X.mg X.base CX k fI fd ps sp)
    (hr : Room (k + 1) X.A) (hb : Binds X.K fd ps []) (hx : Passes CX X (fun _ _ _ => False)) (hg : Gl X x) (hm : X.mg x = some (.ref C)) (hdb : (x == ("__debug__" : Str)) = false := by decide) :
    PMk X (.Call (.Name x p) [] [] pos) (fun σ H Q => ∀ a, H a = none → sp [.ref a] (upd H a (exo a C none)) (fun v H2 => v = .non ∧ ∃ (d : Addr) (fs : List (Str × V)), H2 a = some (exo a C (some d)) ∧ H2 d = some (exd d fs) ∧ H d = none ∧ Q (.ref C) (some d) (upd (del H2 a) d (.xd fs))) (fun _ _ _ => False)) := by
  intro pins s σ H Q I h
  obtain ⟨nm, q, N, bs, bm, sn, sub, ab, col, dd, k0, k1, k2, k3, k5, hC, hbm⟩ := T.cls
  refine wpAny_Call_Name_kw (ld_glob I hg hm (PySem.W.callWith_K0 I.kIn T.kC ?_) hdb)
  obtain ⟨g0, gs, dr, tk, os⟩ := s
  have z1 : g0.objs.size ≤ g0.objs.size + 1 := Nat.le_succ _
  have hq := h (g0.objs.size + 1) (I.hok.fresh z1)
  have kk : ∀ b o, g0.get? b = some o → ((g0.push (PySem.W.kdv_tup [])).push (PySem.HandSPX.excO C g0.objs.size)).get? b = some o :=
    fun b o e => Heap.get?_push_of_some _ (Heap.get?_push_of_some _ e)
  have I2 : Inv X pins σ (upd H (g0.objs.size + 1) (exo (g0.objs.size + 1) C none)) ⟨(g0.push (PySem.W.kdv_tup [])).push (PySem.HandSPX.excO C g0.objs.size), gs, dr, tk, os⟩ :=
    Inv.laid (t' := tk) I kk z1 (exo_ok (t1 := g0.objs.size) (by heap_get))
  have r2 : Vals [V.ref (g0.objs.size + 1)] (Value.ref (g0.objs.size + 1) :: ([] : List Value)) := .cons rfl .nil
  have hl : (Value.ref (g0.objs.size + 1) :: ([] : List Value)).length = ps.length := (F1.len _ _ _ _ hq).symm ▸ rfl
  show wpAny _ _ (call (.ref C) []) _ _ _
  have run1 := F1.run _ X.stack _ _ ⟨[Value.ref (g0.objs.size + 1)], []⟩ [Value.ref (g0.objs.size + 1)] _ _ (fun _ _ _ => False) (hr.make C [] []) (I2.env0.make C [] []) (hb _ [Value.ref (g0.objs.size + 1)] I2.kIn hl) r2 hq
  refine wpAny_call (PySem.HandSPX.call_own F.excBase_ValueError (fun Y => PySem.HandSPX.refsVE_contains Y bm hbm) (I.kIn _ _ hC) (PySem.W.looks_findIn I.kIn iC) (fun self => PySem.W.bind_fn I.kIn self tI) (Nat.zero_le _) (codeAny_mono run1 (fun r s' hq' => ?_)))
  cases r with
  | error er => exact hx pins σ _ _ er s' I2 hq'
  | ok fl =>
    cases fl with
    | ret u =>
        obtain ⟨v, H2, o2, b2, un2, hk2, rv, ev, d, fs, ea, ed, hd1, q2⟩ := hq'
        obtain rfl := ev
        exact ⟨rv, mk_end (raises_own T.exC T.tyC) I z1 kk un2 hk2 o2 b2 ea ed hd1 q2⟩
    | next => exact hq'.elim
    | brk => exact hq'.elim
    | cont => exact hq'.elim
end
end Hk
namespace Hk
open PySem PySem.Spec PyProof.Rows L2
open He (ga ma ba eqO eqO_ok)
section
variable {X : Cx} {CX : CXT} {k : Nat} {x : Str} {ps : List Str} {sp : Sp} {p pos : Pos}
theorem pmk_x0 {K : PySem.W.Frag} (T : OexC K (ga K x)) (I : XIn K x) (G : AOk X.prog X.w K X.mg X.base CX k (mt K x "__init__") ps sp) (hr : Room (k + 1) X.A) (hx : Passes CX X (fun _ _ _ => False)) (hm : X.mg x = some (.ref (ga K x))) (hK : X.K = K := by rfl) (hg : Gl X x := by rfl)
    (hdb : (x == ("__debug__" : Str)) = false := by decide) :
    PMk X (.Call (.Name x p) [] [] pos) (fun σ H Q => ∀ a, H a = none → sp [.ref a] (upd H a (exo a (ga K x) none)) (fun v H2 => v = .non ∧ ∃ (d : Addr) (fs : List (Str × V)), H2 a = some (exo a (ga K x) (some d)) ∧ H2 d = some (exd d fs) ∧ H d = none ∧ Q (.ref (ga K x)) (some d) (upd (del H2 a) d (.xd fs))) (fun _ _ _ => False)) := by
  subst hK
  obtain ⟨fd, b, c⟩ := G.ex
  exact pmk_oex0 T I.fi I.ty c hr b hx hg hm hdb
end
end Hk

end
section
set_option Elab.async false
set_option linter.all false
set_option maxRecDepth 100000
set_option maxHeartbeats 4000000
/-! isinstance of a caught error that has fields. -/
namespace Hk
open PySem PySem.Spec PyProof.Rows L2
open He (ga ma ba eqO eqO_ok)
section
variable {X : Cx} {a : Addr} {oe : Obj} {cls : Value} {d : Option Addr} {pn : List (Addr × Obj)}
theorem call_isEd (hz : Zc cls d oe) (hf : ∃ vs, oe.data = .fields vs) :
    CallR (X.suite a ((a, oe) :: pn)) (.builtin "isinstance") (fun xs H Q => ∃ (D dd : Addr) (fs : List (Str × V)), cls = .ref D ∧ d = some dd ∧ H dd = some (.xd fs) ∧ ExcC X.K D ∧ rIsE X.K D a xs H Q) := by
  rintro pins s σ H xs us Q I r ⟨D, dd, fs, rfl, rfl, ex, C, c, cv, b, rfl, hcv, e, q⟩
  match us, r with
  | [u1, u2], .cons rx (.cons rt .nil) =>
    obtain rfl : u1 = Value.ref a := rx
    obtain rfl := hcv _ rt
    obtain ⟨ha, _⟩ := I.pin (a, oe) (List.mem_append_left _ List.mem_cons_self)
    obtain ⟨ws, hd⟩ := hf
    have hx : ObjOk X.prog X.w H s.heap dd (.xd fs) := I.hok dd _ ex
    obtain ⟨mA, hns, _⟩ := hx
    obtain ⟨od, ho, _⟩ := lookIn_ns hns
    have J : PySem.W.InstAt s.heap a oe D (some od) := ⟨ha, hz.1, by unfold PySem.W.notCls; rw [hd] <;> rfl, by rw [hz.2]; exact ho⟩
    have hcl : (PySem.W.clsIn X.K D).isSome = true := by
      obtain ⟨cd, hc, _⟩ := PySem.W.any_some C.hd
      rw [hc] <;> rfl
    exact PySem.W.kia_one (PySem.W.kitx_exc hcl C.hg C.hk C.hs C.ha C.hn C.ht C.hm) I.kIn J e nofun fun tk => ⟨.bl b, H, I.kept (t' := tk) fun _ _ z => z, rfl, q⟩
end
end Hk

end
section
set_option Elab.async false
set_option linter.all false
set_option maxRecDepth 100000
set_option maxHeartbeats 4000000
/-! Errors whose context is None; defs called within an except suite. -/
namespace Hk
open PySem PySem.Spec PyProof.Rows L2
open He (ga ma ba eqO eqO_ok)
section
variable {X : Cx} {CX : CXT} {k : Nat} {x : Str} {ps : List Str} {sp : Sp} {p pos : Pos} {E : L2.St → XK} {e : Expr} {es : List Expr} {t : TA}
theorem pmkN_x0 {K : PySem.W.Frag} (T : OexC K (ga K x)) (Y : XIn K x) (G : AOk X.prog X.w K X.mg X.base CX k (mt K x "__init__") ps sp) (hr : Room (k + 1) X.A) (hx : Passes CX X (fun _ _ _ => False)) (hm : X.mg x = some (.ref (ga K x))) (hK : X.K = K := by rfl) (hg : Gl X x := by rfl)
    (hdb : (x == ("__debug__" : Str)) = false := by decide) :
    L2N.PMk X (.Call (.Name x p) [] [] pos) (fun σ H Q => ∀ a, H a = none → sp [.ref a] (upd H a (exo a (ga K x) none)) (fun v H2 => v = .non ∧ ∃ (d : Addr) (fs : List (Str × V)), H2 a = some (exo a (ga K x) (some d)) ∧ H2 d = some (exd d fs) ∧ H d = none ∧ Q (.ref (ga K x)) (some d) (upd (del H2 a) d (.xd fs))) (fun _ _ _ => False)) := by
  subst hK
  obtain ⟨fd, hb, F1⟩ := G.ex
  intro pins s σ H Q I h
  obtain ⟨nm, q, N, bs, bm, sn, sub, ab, col, dd, k0, k1, k2, k3, k5, hC, hbm⟩ := T.cls
  refine wpAny_Call_Name_kw (ld_glob I hg hm (PySem.W.callWith_K0 I.kIn T.kC ?_) hdb)
  obtain ⟨g0, gs, dr, tk, os⟩ := s
  have z1 : g0.objs.size ≤ g0.objs.size + 1 := Nat.le_succ _
  have hq := h (g0.objs.size + 1) (I.hok.fresh z1)
  have kk : ∀ b o, g0.get? b = some o → ((g0.push (PySem.W.kdv_tup [])).push (PySem.HandSPX.excO (ga X.K x) g0.objs.size)).get? b = some o :=
    fun b o e => Heap.get?_push_of_some _ (Heap.get?_push_of_some _ e)
  have I2 : Inv X pins σ (upd H (g0.objs.size + 1) (exo (g0.objs.size + 1) (ga X.K x) none)) ⟨(g0.push (PySem.W.kdv_tup [])).push (PySem.HandSPX.excO (ga X.K x) g0.objs.size), gs, dr, tk, os⟩ :=
    Inv.laid (t' := tk) I kk z1 (exo_ok (t1 := g0.objs.size) (by heap_get))
  have r2 : Vals [V.ref (g0.objs.size + 1)] (Value.ref (g0.objs.size + 1) :: ([] : List Value)) := .cons rfl .nil
  have hl : (Value.ref (g0.objs.size + 1) :: ([] : List Value)).length = ps.length := (F1.len _ _ _ _ hq).symm ▸ rfl
  show wpAny _ _ (call (.ref (ga X.K x)) []) _ _ _
  have run1 := F1.run _ X.stack _ _ ⟨[Value.ref (g0.objs.size + 1)], []⟩ [Value.ref (g0.objs.size + 1)] _ _ (fun _ _ _ => False) (hr.make (ga X.K x) [] []) (I2.env0.make (ga X.K x) [] []) (hb _ [Value.ref (g0.objs.size + 1)] I2.kIn hl) r2 hq
  refine wpAny_call (PySem.HandSPX.call_own F.excBase_ValueError (fun Z => PySem.HandSPX.refsVE_contains Z bm hbm) (I.kIn _ _ hC) (PySem.W.looks_findIn I.kIn Y.fi) (fun self => PySem.W.bind_fn I.kIn self Y.ty) (Nat.zero_le _) (codeAny_mono run1 (fun r s' hq' => ?_)))
  cases r with
  | error er => exact hx pins σ _ _ er s' I2 hq'
  | ok fl =>
    cases fl with
    | ret u =>
      obtain ⟨v, H2, o2, b2, un2, hk2, rv, ev, d, fs, ea, ed, hd1, q2⟩ := hq'
      obtain rfl := ev
      obtain ⟨h2, gs2, dr2, tk2, os2⟩ := s'
      obtain ⟨u0, G2, J, kG, ge, hoe, na⟩ := mk_end0 (d2 := dr2) (t2 := tk2) I z1 kk un2 hk2 o2 b2 ea ed hd1
      exact ⟨rv, g0.objs.size + 1, _, _, ⟨G2, gs2, dr2, tk2, os2⟩, _, .ref (ga X.K x), some d, rfl, J, kG, ge, hoe, ⟨rfl, rfl, fun vs hv => by cases hv; rfl⟩, rfl, rfl, na, rfl, b2, raises_own T.exC T.tyC, q2⟩
    | next => exact hq'.elim
    | brk => exact hq'.elim
    | cont => exact hq'.elim
theorem takesN0 : L2N.Takes X (fun _ _ _ _ => False) := fun _ _ x => by
  obtain ⟨_, _, _, _, _, _, _, _, _, _, _, _, _, _, _, _, z⟩ := x
  exact z.elim
theorem passA0 {E : XK} (σ : L2.St) : PassesAt CX0 X σ E := fun _ _ _ _ _ _ h => h.elim
/-! ### defs called in a suite -/
structure GOkH (P : Program) (w : World) (K : PySem.W.Frag) (mg : Str → Option Value) (base : Heap) (CX : CXT) (k : Nat) (x : Str) (ps : List Str) (sp : Sp) : Prop where
  g : mg x = some (.ref (ga K x))
  ex : ∃ fd, PySem.W.keepIn K (.ref (ga K x)) = true ∧ Binds K fd ps [] ∧ L2H.FnH P w K mg base CX k (ga K x) fd ps sp
theorem pe_gH (G : GOkH X.prog X.w X.K X.mg X.base CX k x ps sp) (hr : L2H.RoomH k X.A) (hc : L2H.HotC X) (hx : ∀ σ, PassesAt CX X σ (E σ)) (ha : PA X (e :: es) t) (hg : Gl X x := by rfl)
    (hdb : (x == ("__debug__" : Str)) = false := by decide) (he : starEach (e :: es) X.env = (false, eval e X.env) :: starEach es X.env := by rfl) (hpl : (backTo pos (starEach es X.env)).any (·.1) = false := by rfl) :
    PE X (.Call (.Name x p) (e :: es) [] pos) (tCallS sp E t) := by
  obtain ⟨fd, h1, h2, h3⟩ := G.ex
  exact L2H.pe_callH h3 hr hc hg G.g h1 h2 hx ha hdb he hpl
theorem hot_suite {a : Addr} {oe : Obj} {cls : Value} {d : Option Addr} {pn : List (Addr × Obj)} (hz : L2N.Zn cls d oe) (hf : ∃ vs, oe.data = .fields vs) : L2H.HotC (X.suite a ((a, oe) :: pn)) := by
  obtain ⟨vs, hd⟩ := hf
  exact ⟨(a, oe), ⟨rfl, vs, hd, hz.2.2 vs hd⟩, List.mem_cons_self⟩
end
section
variable {P : Program} {w : World} {K : PySem.W.Frag} {mg : Str → Option Value} {base : Heap} {nm qual : Str} {st : Stmt} {N ps : List Str} {k : Nat} {CX : CXT} {sp : Sp}
theorem mkGH (g : mg nm = some (.ref (ga K nm))) (F : ∃ fd, FunD K nm qual (defArgs st) (defBody st) (defScope st) [] [] (ga K nm) fd)
    (hb : ∀ (kV doc pm : Value) (an : Option Addr) (cdv ct : Value) (us : List Value), us.length = ps.length → bindArgs (PySem.W.fnOf nm qual (defArgs st) (defBody st) (defScope st) .none kV doc pm an cdv ct) ⟨us, []⟩ = pure (ps.zip us))
    (S : FnScope N ps (defScope st)) (len : ∀ vs H Q E, sp vs H Q E → vs.length = ps.length)
    (hbody : ∀ (cdv : Value) (A : Around) (outer : List Env) (s : Shared) (H : Hp) (vs : List V) (Q : VK) (E : XK) (p : Addr × Obj), L2H.HotC (L2H.cxH CX P w K mg base N qual (defScope st) (ga K nm) cdv A outer s H E p).nox → L2H.RoomH k (A.deeper (envOfC qual (defScope st) s.heap.objs.size (ga K nm) cdv)) → sp vs H Q E →
      ∃ t, PSs (L2H.cxH CX P w K mg base N qual (defScope st) (ga K nm) cdv A outer s H E p).nox (defBody st) t ∧ t { nx := fun _ H' => Q .non H', rt := Q } (start N vs) H) : GOkH P w K mg base CX (k + 1) nm ps sp := by
  obtain ⟨fd, F⟩ := F
  have F' := F.bindsN hb
  have kp := F.kp
  obtain ⟨oc, od, dV, kV, doc, pm, an, cdv, ct, osl, rfl, lk, hcd, _, _⟩ := F.ex
  refine ⟨g, _, kp, F', L2H.fn_ofH lk hcd S len fun A outer s H vs Q E p hot hr hsp => ?_⟩
  obtain ⟨t, h1, h2⟩ := hbody cdv A outer s H vs Q E p ⟨p, hot, List.mem_cons_self⟩ hr hsp
  exact ⟨t, h1.nox, h2⟩
end
end Hk
namespace Hk
open PySem PySem.Spec PyProof.Rows L2
theorem sl_tupAK {X : Cx} {K : PySem.W.Frag} (h : X.K = K := by rfl) : SlR X (rSlA K) := h ▸ sl_tupA
theorem op_catAK {X : Cx} {K : PySem.W.Frag} (h : X.K = K := by rfl) : OpR X (binaryOp .Add) (rCatA K) := h ▸ op_catA
end Hk

end
section
set_option Elab.async false
set_option linter.all false
set_option maxRecDepth 100000
set_option maxHeartbeats 4000000
/-! The hook of facts with tables (dicts of the top with text keys); keyword-only parameters. -/
namespace Hk
open PySem PySem.Spec PyProof.Rows L2
open He (ga ma ba eqO eqO_ok frG frG_in)
open He5 (DefA fnA asA wf)
abbrev TabL : Type := List (PySem.W.Frag → Addr) × List (List Str)
abbrev AlE : Type := He.AlD × List (Option (List (Option (Str × Int))))
def obsW (ex : PySem.W.Frag → Bool) (fn : List DefA) (ts : List He.Tab) (K : PySem.W.Frag) : AlE := (obsE ex fn K, ts.map fun t => He.dicW K (t.1 K))
def valW (fn : List DefA) (ts : List He.Tab) (w : World) : AlE := (valE fn, ts.map fun t => some (He.keysIn w.params t.2))
def SaysW (ex : PySem.W.Frag → Bool) (fn : List DefA) (ts : List He.Tab) (w : World) (K : PySem.W.Frag) : Prop := obsW ex fn ts K = valW fn ts w
def obsWG (n : Nat) (ex : PySem.W.Frag → Bool) (fn : List DefA) (ts : List He.Tab) (g : Addr → Option Obj) : AlE := obsW ex fn ts (frG g (asA g n))
def hookW (n : Nat) (ex : PySem.W.Frag → Bool) (fn : List DefA) (ts : List He.Tab) : PySem.W.Hook where
  α := AlE
  obs := fun s => obsWG n ex fn ts s.heap.get?
  val := fun w => valW fn ts w
  says := fun w h => ∃ K : PySem.W.Frag, K.In h ∧ SaysW ex fn ts w K
  of := fun _ _ e => ⟨_, frG_in, e⟩
  keeps := fun _ _ _ ⟨K, hK, c⟩ k => ⟨K, PySem.W.Frag.In.keeps hK k, c⟩
theorem obsWG_eq {n : Nat} {ex : PySem.W.Frag → Bool} {fn : List DefA} {ts : List He.Tab} {g : Addr → Option Obj} {s : Shared} (h : ∀ a, g a = s.heap.get? a) : obsWG n ex fn ts g = (hookW n ex fn ts).obs s := by
  have e : g = s.heap.get? := funext h
  rw [e] <;> rfl
section
variable {ex : PySem.W.Frag → Bool} {fn : List DefA} {ts : List He.Tab} {K : PySem.W.Frag} {w : World}
theorem SaysW.e (c : SaysW ex fn ts w K) : SaysE ex fn K := congrArg (fun z : AlE => z.1) c
theorem SaysW.keys (c : SaysW ex fn ts w K) (i : Nat) {t : He.Tab} (h : ts[i]? = some t := by rfl) : He.dicW K (t.1 K) = some (He.keysIn w.params t.2) := by
  have e : ts.map (fun t => He.dicW K (t.1 K)) = ts.map fun t => some (He.keysIn w.params t.2) := congrArg (fun z : AlE => z.2) c
  have e2 : (ts.map fun t => He.dicW K (t.1 K))[i]? = (ts.map fun t => some (He.keysIn w.params t.2))[i]? := by rw [e]
  rw [List.getElem?_map, List.getElem?_map, h] at e2
  exact Option.some.inj e2
end
/-- a table, its keys known: an item under a key, nothing under another one -/
structure TabF (K : PySem.W.Frag) (w : World) (a : Addr) (ks : List Str) : Prop where
  d : ∃ es n, KDict K w a es n
  no : ∀ z, z ∉ ks → PySem.W.nsIn K a z = some none
theorem no_key {P : Params} {z : Str} : ∀ {l : List DictEntry} {ks : List Str}, l.map He.keyOf = He.keysIn P ks → z ∉ ks → l.find? (·.key.isStr z) = none ∧ l.any (·.refKey) = false
  | [], _, _, _ => ⟨rfl, rfl⟩
  | e :: r, [], h, _ => by cases h
  | e :: r, k :: ks, h, hz => by
    have h1 : He.keyOf e :: r.map He.keyOf = some (k, PyData.keyHash P k) :: He.keysIn P ks := h
    injection h1 with h2 h3
    obtain ⟨f1, f2⟩ := no_key h3 (fun m => hz (List.mem_cons_of_mem _ m))
    obtain ⟨ek, ev, eh⟩ := e
    unfold He.keyOf at h2
    split at h2
    · rename_i x t q
      dsimp only at q
      have h5 := (Prod.mk.inj (Option.some.inj h2)).1
      have nz : ¬ (x = z) := fun y => hz (by rw [← y, h5]; exact List.mem_cons_self)
      subst q
      have e1 : (Value.str x t).isStr z = false := beq_eq_false_iff_ne.mpr nz
      refine ⟨?_, ?_⟩
      · rw [List.find?_cons]
        show (match (Value.str x t).isStr z with | true => some _ | false => List.find? _ r) = none
        rw [e1]
        exact f1
      · rw [List.any_cons]
        show (false || _) = false
        rw [f2] <;> rfl
    · cases h2
theorem tab_ok {K : PySem.W.Frag} {w : World} {a : Addr} {ks : List Str} (h : He.dicW K a = some (He.keysIn w.params ks)) : TabF K w a ks := by
  refine ⟨He.dicW_ok h, fun z hz => ?_⟩
  obtain ⟨es, n, hd⟩ := He.dicW_ok h
  have hl := hd.1
  unfold He.dicW at h
  rw [hl] at h
  have h2 : (match decide (("dict" : String) = "dict") && ((#[] : Array (Option Value)).isEmpty && !(a == sysModules)) with
    | true => some (es.toList.map He.keyOf)
    | false => none) = some (He.keysIn w.params ks) := h
  split at h2
  · obtain ⟨f1, f2⟩ := no_key (Option.some.inj h2) hz
    unfold PySem.W.nsIn
    rw [hl]
    dsimp only
    rw [f1]
    dsimp only
    rw [f2]
    rfl
  · cases h2
/-- where the table's item under a key stands -/
def pa (K : PySem.W.Frag) (x k : Str) : Addr := match PySem.W.nsIn K (ga K x) k with
  | some (some (.ref a)) => a
  | _ => 0
def keyB (K : PySem.W.Frag) (x k : Str) : Bool := eqO (PySem.W.nsIn K (ga K x) k) (some (some (.ref (pa K x k))))
/-- a written tuple at an address -/
def tupAB (K : PySem.W.Frag) (a : Addr) (vs : List He.Dv) : Bool := match K.lookup a with
  | some ⟨.type c, _, .seq its _, _⟩ => decide (c = "tuple") && (decide (its.size ≤ sizeLine) && He.relAll (vs.map (He.Dv.v K)) its.toList)
  | _ => false
theorem tupA_ok {K : PySem.W.Frag} {a : Addr} {vs : List He.Dv} (h : tupAB K a vs = true) (H : Hp) : SqT K H a (vs.map (He.Dv.v K)) := by
  unfold tupAB at h
  split at h
  · rename_i c dd its n sl e
    obtain ⟨h1, h2⟩ := ba h
    obtain ⟨h3, h4⟩ := ba h2
    exact .inr ⟨_, its, n, e, congrArg Value.type (of_decide_eq_true h1), rfl, of_decide_eq_true h3, He.relAll_ok h4⟩
  · cases h
/-- a def with keyword-only parameters alone behind the positional ones -/
structure GOkN (P : Program) (w : World) (K : PySem.W.Frag) (mg : Str → Option Value) (base : Heap) (CX : CXT) (k : Nat) (x : Str) (ps : List Str) (n : Nat) (ks : List Str) (gV : List V → List V → List V) (sp : Sp) : Prop where
  g : mg x = some (.ref (ga K x))
  ex : ∃ (fd : FuncData) (g : List Value → List Value → List Value), PySem.W.keepIn K (.ref (ga K x)) = true ∧ KBn K fd ps n ks g gV ∧ FnOk P w K mg base CX k (ga K x) fd ps sp
theorem pe_gN {X : Cx} {CX : CXT} {k n : Nat} {x : Str} {ps ks : List Str} {gV : List V → List V → List V} {sp : Sp} {E : XK} {e : Expr} {es : List Expr} {kws : List Keyword} {p pos : Pos} {t tk : TA} (G : GOkN X.prog X.w X.K X.mg X.base CX k x ps n ks gV sp) (hr : Room k X.A) (hx : Passes CX X E) (ha : PA X (e :: es) t) (hkw : PK X kws tk) (hg : Gl X x := by rfl)
    (hall : (backToKw pos (keywordEach kws X.env)).all (·.1.isSome) = true := by rfl) (hks : (backToKw pos (keywordEach kws X.env)).filterMap (·.1) = ks := by rfl)
    (hdb : (x == ("__debug__" : Str)) = false := by decide) (he : starEach (e :: es) X.env = (false, eval e X.env) :: starEach es X.env := by rfl)
    (hpl : ((backTo pos (starEach (e :: es) X.env)).any (·.1) || (backToKw pos (keywordEach kws X.env)).any (·.1.isNone)) = false := by rfl) :
    PE X (.Call (.Name x p) (e :: es) kws pos) (tCallN n ks.length sp gV E t tk) := by
  obtain ⟨fd, g, h1, h2, h3⟩ := G.ex
  exact pe_callN h3 hr hg G.g h1 h2 hx ha hkw hall hks hdb he hpl
/-- the world's answer to one row, told -/
def rowSet (p : Params) (b : Bool) : Params := { p with followText := fun s => if s == "special-get-raises" then b else p.followText s }
theorem row_eq (p : Params) : p = rowSet p (p.followText "special-get-raises") := by
  have e : p.followText = fun s => if s == "special-get-raises" then p.followText "special-get-raises" else p.followText s := funext fun s => by
    by_cases h : s = "special-get-raises"
    · subst h
      rw [if_pos (beq_self_eq_true _)]
    · rw [if_neg (fun z => h (beq_iff_eq.mp z))]
  unfold rowSet
  rw [← e]
end Hk

end
section
set_option Elab.async false
set_option linter.all false
set_option maxRecDepth 100000
set_option maxHeartbeats 4000000
/-! A def with keyword-only parameters called within a try. -/
namespace Hk
open PySem PySem.Spec PyProof.Rows L2
open He (ga)
def tCallNS (n m : Nat) (sp : Sp) (gV : List V → List V → List V) (E : L2.St → XK) (t tk : TA) : TE := fun σ H Q => tCallN n m sp gV (E σ) t tk σ H Q
theorem pe_gNS {X : Cx} {CX : CXT} {k n : Nat} {x : Str} {ps ks : List Str} {gV : List V → List V → List V} {sp : Sp} {E : L2.St → XK} {e : Expr} {es : List Expr} {kws : List Keyword} {p pos : Pos} {t tk : TA} (G : GOkN X.prog X.w X.K X.mg X.base CX k x ps n ks gV sp) (hr : Room k X.A) (hx : ∀ σ, PassesAt CX X σ (E σ)) (ha : PA X (e :: es) t) (hkw : PK X kws tk) (hg : Gl X x := by rfl)
    (hall : (backToKw pos (keywordEach kws X.env)).all (·.1.isSome) = true := by rfl) (hks : (backToKw pos (keywordEach kws X.env)).filterMap (·.1) = ks := by rfl)
    (hdb : (x == ("__debug__" : Str)) = false := by decide) (he : starEach (e :: es) X.env = (false, eval e X.env) :: starEach es X.env := by rfl)
    (hpl : ((backTo pos (starEach (e :: es) X.env)).any (·.1) || (backToKw pos (keywordEach kws X.env)).any (·.1.isNone)) = false := by rfl) :
    PE X (.Call (.Name x p) (e :: es) kws pos) (tCallNS n ks.length sp gV E t tk) := by
  obtain ⟨fd, g, kp, hb, F⟩ := G.ex
  subst hks
  refine ⟨fun pins s σ H Q I h => wpAny_Call_Name_kw (ld_glob I hg G.g ?_ hdb)⟩
  refine PySem.W.callWith_KW (h₀ := X.base) I.ok.mod.kin kp hall (thn (ha.run pos pins s σ H _ I h) fun us s1 h1 => ?_) hpl he
  obtain ⟨vs, H1, I1, r, q⟩ := h1
  refine thn (hkw.run pos pins s1 σ H1 _ I1 q) fun ws s2 h2 => ?_
  obtain ⟨zs, H2, I2, rz, l1, l2, q2⟩ := h2
  refine ⟨I2.kIn, wpAny_call (codeAny_mono (F.run X.A X.stack s2 H2 ⟨us, _⟩ (g us ws) (gV vs zs) Q (E σ) hr I2.env0 (hb.to s2 us ws I2.kIn (r.length.symm.trans l1) (rz.length.symm.trans l2)) (hb.rel r rz) q2) fun z s' hq => ?_)⟩
  match z, hq with
  | .error e, hq => exact hx σ pins H2 s2 e s' I2 hq
  | .ok (.ret u), hq => exact I2.after hq
  | .ok .next, hq => exact hq.elim
  | .ok .brk, hq => exact hq.elim
  | .ok .cont, hq => exact hq.elim
end Hk

end
section
set_option Elab.async false
set_option linter.all false
set_option maxRecDepth 100000
set_option maxHeartbeats 4000000
namespace K02
open PySem PySem.Spec PyProof.Rows L2
open He (ga ma ba)
def top (i : Nat) : Stmt := PySem.Challenge.pw_bookstogether_k02_conditions_checked.main.body.getD i (.Pass ⟨0, 0, 0, 0⟩)
abbrev s_has_form : Stmt := top 7
abbrev s_check_condition : Stmt := top 8
abbrev s_box : Stmt := top 10
abbrev s_draw : Stmt := top 11
abbrev s_pick : Stmt := top 12
abbrev s_condition : Stmt := top 13
abbrev s_wraps : Stmt := top 14
abbrev s_wrapped : Stmt := top 15
abbrev s_spoilt : Stmt := top 16
abbrev s_fits : Stmt := top 17
abbrev s_checked : Stmt := top 18
abbrev s_by_default : Stmt := top 19
abbrev s_law : Stmt := top 20
theorem sc_has_form : FnScope ["condition", "word"] ["condition"] (defScope s_has_form) := ⟨rfl, rfl, rfl, by decide +kernel, rfl, by decide +kernel, by decide +kernel⟩
theorem sc_check_condition : FnScope ["condition", "levels", "quotients", "word", "kind", "part"] ["condition", "levels", "quotients"] (defScope s_check_condition) := ⟨rfl, rfl, rfl, by decide +kernel, rfl, by decide +kernel, by decide +kernel⟩
theorem sc_box : FnScope ["_law_script"] ["_law_script"] (defScope s_box) := ⟨rfl, rfl, rfl, by decide +kernel, rfl, by decide +kernel, by decide +kernel⟩
theorem sc_draw : FnScope ["_law_box_here", "_law_size", "_law_drawn", "_law_mixed"] ["_law_box_here", "_law_size"] (defScope s_draw) := ⟨rfl, rfl, rfl, by decide +kernel, rfl, by decide +kernel, by decide +kernel⟩
theorem sc_pick : FnScope ["_law_box_here", "_law_menu"] ["_law_box_here", "_law_menu"] (defScope s_pick) := ⟨rfl, rfl, rfl, by decide +kernel, rfl, by decide +kernel, by decide +kernel⟩
theorem sc_condition : FnScope ["_law_box_here", "_law_levels", "_law_errs", "_law_word", "_law_column"] ["_law_box_here", "_law_levels", "_law_errs"] (defScope s_condition) := ⟨rfl, rfl, rfl, by decide +kernel, rfl, by decide +kernel, by decide +kernel⟩
theorem sc_wraps : FnScope ["_law_box_here", "_law_many", "_law_k"] ["_law_box_here", "_law_many"] (defScope s_wraps) := ⟨rfl, rfl, rfl, by decide +kernel, rfl, by decide +kernel, by decide +kernel⟩
theorem sc_wrapped : FnScope ["_law_wrap", "_law_condition_here"] ["_law_wrap", "_law_condition_here"] (defScope s_wrapped) := ⟨rfl, rfl, rfl, by decide +kernel, rfl, by decide +kernel, by decide +kernel⟩
theorem sc_spoilt : FnScope ["_law_box_here", "_law_condition_here", "_law_kind", "_law_word", "_law_at"] ["_law_box_here", "_law_condition_here"] (defScope s_spoilt) := ⟨rfl, rfl, rfl, by decide +kernel, rfl, by decide +kernel, by decide +kernel⟩
theorem sc_fits : FnScope ["_law_condition_here", "_law_deep", "_law_errs", "_law_sizes", "_law_word", "_law_part"] ["_law_condition_here", "_law_deep", "_law_errs"] (defScope s_fits) := ⟨rfl, rfl, rfl, by decide +kernel, rfl, by decide +kernel, by decide +kernel⟩
theorem sc_checked : FnScope ["_law_condition_here", "_law_deep", "_law_errs", "_law_good", "_law_told", "bad"] ["_law_condition_here", "_law_deep", "_law_errs"] (defScope s_checked) := ⟨rfl, rfl, rfl, by decide +kernel, rfl, by decide +kernel, by decide +kernel⟩
theorem sc_by_default : FnScope ["_law_condition_here", "_law_deep", "_law_way", "_law_good", "_law_told", "bad"] ["_law_condition_here", "_law_deep", "_law_way"] (defScope s_by_default) := ⟨rfl, rfl, rfl, by decide +kernel, rfl, by decide +kernel, by decide +kernel⟩
theorem sc_law : FnScope ["_law_script", "_law_box_here", "_law_many", "_law_where", "_law_deep", "_law_good", "_law_wraps_here", "_law_worse", "_law_k", "_law_condition_here", "_law_levels", "_law_way"] ["_law_script"] (defScope s_law) := ⟨rfl, rfl, rfl, by decide +kernel, rfl, by decide +kernel, by decide +kernel⟩
/-! ### the facts -/
def d_has_form : He5.DefA := ⟨fun K => ga K "_has_form", "_has_form", "_has_form", defArgs s_has_form, defBody s_has_form, defScope s_has_form, [], []⟩
def d_check_condition : He5.DefA := ⟨fun K => ga K "check_condition", "check_condition", "check_condition", defArgs s_check_condition, defBody s_check_condition, defScope s_check_condition, [], [("levels", .int 10), ("quotients", .bl true)]⟩
def d_box : He5.DefA := ⟨fun K => ga K "_law_box", "_law_box", "_law_box", defArgs s_box, defBody s_box, defScope s_box, [], []⟩
def d_draw : He5.DefA := ⟨fun K => ga K "_law_draw", "_law_draw", "_law_draw", defArgs s_draw, defBody s_draw, defScope s_draw, [], []⟩
def d_pick : He5.DefA := ⟨fun K => ga K "_law_pick", "_law_pick", "_law_pick", defArgs s_pick, defBody s_pick, defScope s_pick, [], []⟩
def d_condition : He5.DefA := ⟨fun K => ga K "_law_condition", "_law_condition", "_law_condition", defArgs s_condition, defBody s_condition, defScope s_condition, [], []⟩
def d_wraps : He5.DefA := ⟨fun K => ga K "_law_wraps", "_law_wraps", "_law_wraps", defArgs s_wraps, defBody s_wraps, defScope s_wraps, [], []⟩
def d_wrapped : He5.DefA := ⟨fun K => ga K "_law_wrapped", "_law_wrapped", "_law_wrapped", defArgs s_wrapped, defBody s_wrapped, defScope s_wrapped, [], []⟩
def d_spoilt : He5.DefA := ⟨fun K => ga K "_law_spoilt", "_law_spoilt", "_law_spoilt", defArgs s_spoilt, defBody s_spoilt, defScope s_spoilt, [], []⟩
def d_fits : He5.DefA := ⟨fun K => ga K "_law_fits", "_law_fits", "_law_fits", defArgs s_fits, defBody s_fits, defScope s_fits, [], []⟩
def d_checked : He5.DefA := ⟨fun K => ga K "_law_checked", "_law_checked", "_law_checked", defArgs s_checked, defBody s_checked, defScope s_checked, [], []⟩
def d_by_default : He5.DefA := ⟨fun K => ga K "_law_by_default", "_law_by_default", "_law_by_default", defArgs s_by_default, defBody s_by_default, defScope s_by_default, [], []⟩
def d_law : He5.DefA := ⟨fun K => ga K "law", "law", "law", defArgs s_law, defBody s_law, defScope s_law, [], []⟩
def fn : List He5.DefA := [d_has_form, d_check_condition, d_box, d_draw, d_pick, d_condition, d_wraps, d_wrapped, d_spoilt, d_fits, d_checked, d_by_default, d_law]
def exl : List (PySem.W.Frag → Bool) := [
  fun K => (He.Fa.free "isinstance").ok K,
  fun K => (He.Fa.free "tuple").ok K,
  fun K => (He.Fa.free "len").ok K,
  fun K => (He.Fa.free "zip").ok K,
  fun K => (He.Fa.free "list").ok K,
  fun K => (He.Fa.free "abs").ok K,
  fun K => (He.Fa.free "int").ok K,
  fun K => (He.Fa.free "range").ok K,
  fun K => (He.Fa.glo "BookError").ok K,
  fun K => (He.Fa.glo "InvalidCondition").ok K,
  fun K => (He.Fa.glo "Refusal").ok K,
  fun K => (He.Fa.glo "NUMBERS").ok K,
  fun K => Hk.tupO K "NUMBERS",
  fun K => He.tupB K "NUMBERS" [.int 0, .int 1, .int 2],
  fun K => (He.Fa.glo "PARTS").ok K,
  fun K => Hk.keyB K "PARTS" "always",
  fun K => Hk.tupAB K (Hk.pa K "PARTS" "always") [],
  fun K => Hk.keyB K "PARTS" "equal",
  fun K => Hk.tupAB K (Hk.pa K "PARTS" "equal") [.str "number", .str "number"],
  fun K => Hk.keyB K "PARTS" "below",
  fun K => Hk.tupAB K (Hk.pa K "PARTS" "below") [.str "number", .str "number"],
  fun K => Hk.keyB K "PARTS" "unknown",
  fun K => Hk.tupAB K (Hk.pa K "PARTS" "unknown") [.str "number"],
  fun K => Hk.keyB K "PARTS" "quotient",
  fun K => Hk.tupAB K (Hk.pa K "PARTS" "quotient") [.str "number", .str "number", .str "number"],
  fun K => Hk.keyB K "PARTS" "not",
  fun K => Hk.tupAB K (Hk.pa K "PARTS" "not") [.str "condition"],
  fun K => Hk.keyB K "PARTS" "and",
  fun K => Hk.tupAB K (Hk.pa K "PARTS" "and") [.str "condition", .str "condition"],
  fun K => Hk.keyB K "PARTS" "or",
  fun K => Hk.tupAB K (Hk.pa K "PARTS" "or") [.str "condition", .str "condition"],
  fun K => (He.Fa.glo "_has_form").ok K,
  fun K => (He.Fa.glo "check_condition").ok K,
  fun K => (He.Fa.glo "_law_box").ok K,
  fun K => (He.Fa.glo "_law_draw").ok K,
  fun K => (He.Fa.glo "_law_pick").ok K,
  fun K => (He.Fa.glo "_law_condition").ok K,
  fun K => (He.Fa.glo "_law_wraps").ok K,
  fun K => (He.Fa.glo "_law_wrapped").ok K,
  fun K => (He.Fa.glo "_law_spoilt").ok K,
  fun K => (He.Fa.glo "_law_fits").ok K,
  fun K => (He.Fa.glo "_law_checked").ok K,
  fun K => (He.Fa.glo "_law_by_default").ok K,
  fun K => (He.Fa.glo "law").ok K,
  fun K => Hk.kitB K "BookError" "BookError" true,
  fun K => (He.Fa.exm "BookError" "BookError" true).ok K,
  fun K => Hk.kitB K "BookError" "InvalidCondition" false,
  fun K => (He.Fa.exm "BookError" "InvalidCondition" false).ok K,
  fun K => Hk.kitB K "BookError" "Refusal" false,
  fun K => (He.Fa.exm "BookError" "Refusal" false).ok K,
  fun K => Hk.excCB K "BookError",
  fun K => Hk.excB K "BookError" [.type "ValueError", .type "Exception", .type "BaseException", .type "object"],
  fun K => Hk.kitB K "InvalidCondition" "BookError" true,
  fun K => (He.Fa.exm "InvalidCondition" "BookError" true).ok K,
  fun K => Hk.kitB K "InvalidCondition" "InvalidCondition" true,
  fun K => (He.Fa.exm "InvalidCondition" "InvalidCondition" true).ok K,
  fun K => Hk.kitB K "InvalidCondition" "Refusal" false,
  fun K => (He.Fa.exm "InvalidCondition" "Refusal" false).ok K,
  fun K => Hk.excCB K "InvalidCondition",
  fun K => Hk.excB K "InvalidCondition" [.type "ValueError", .type "Exception", .type "BaseException", .type "object"],
  fun K => Hk.kitB K "Refusal" "BookError" true,
  fun K => (He.Fa.exm "Refusal" "BookError" true).ok K,
  fun K => Hk.kitB K "Refusal" "InvalidCondition" false,
  fun K => (He.Fa.exm "Refusal" "InvalidCondition" false).ok K,
  fun K => Hk.kitB K "Refusal" "Refusal" true,
  fun K => (He.Fa.exm "Refusal" "Refusal" true).ok K,
  fun K => Hk.excCB K "Refusal",
  fun K => Hk.excB K "Refusal" [.type "ValueError", .type "Exception", .type "BaseException", .type "object"]]
def ex (K : PySem.W.Frag) : Bool := exl.all fun f => f K
def tabs : List He.Tab := [(fun K => ga K "PARTS", ["always", "equal", "below", "unknown", "quotient", "not", "and", "or"])]
structure Txt (w : World) (K : PySem.W.Frag) (mg : Str → Option Value) : Prop where
  saysW : Hk.SaysW ex fn tabs w K
  ns : Hk.NsAll K mg
section
variable {P : Program} {w : World} {K : PySem.W.Frag} {mg : Str → Option Value} {base : Heap}
theorem Txt.says (T : Txt w K mg) : Hk.SaysE ex fn K := T.saysW.e
theorem Txt.e (T : Txt w K mg) (i : Nat) {f : PySem.W.Frag → Bool} (h : exl[i]? = some f) : f K = true := List.all_eq_true.mp (show (exl.all fun f => f K) = true from T.says.more) f (List.mem_of_getElem? h)
theorem Txt.d (T : Txt w K mg) (i : Nat) {d : He5.DefA} (h : fn[i]? = some d) : ∃ fd, FunD K d.name d.qual d.params d.body d.scope (d.dvs K) (d.kws K) (d.at_ K) fd := T.says.def_ i h
theorem Txt.tb_PARTS (T : Txt w K mg) : Hk.TabF K w (ga K "PARTS") ["always", "equal", "below", "unknown", "quotient", "not", "and", "or"] := Hk.tab_ok (T.saysW.keys 0 (t := (fun K => ga K "PARTS", ["always", "equal", "below", "unknown", "quotient", "not", "and", "or"])) rfl)
theorem Txt.z_isinstance (T : Txt w K mg) : mg "isinstance" = none := Hk.free_ok T.ns (T.e 0 (f := fun K => (He.Fa.free "isinstance").ok K) rfl)
theorem Txt.z_tuple (T : Txt w K mg) : mg "tuple" = none := Hk.free_ok T.ns (T.e 1 (f := fun K => (He.Fa.free "tuple").ok K) rfl)
theorem Txt.z_len (T : Txt w K mg) : mg "len" = none := Hk.free_ok T.ns (T.e 2 (f := fun K => (He.Fa.free "len").ok K) rfl)
theorem Txt.z_zip (T : Txt w K mg) : mg "zip" = none := Hk.free_ok T.ns (T.e 3 (f := fun K => (He.Fa.free "zip").ok K) rfl)
theorem Txt.z_list (T : Txt w K mg) : mg "list" = none := Hk.free_ok T.ns (T.e 4 (f := fun K => (He.Fa.free "list").ok K) rfl)
theorem Txt.z_abs (T : Txt w K mg) : mg "abs" = none := Hk.free_ok T.ns (T.e 5 (f := fun K => (He.Fa.free "abs").ok K) rfl)
theorem Txt.z_int (T : Txt w K mg) : mg "int" = none := Hk.free_ok T.ns (T.e 6 (f := fun K => (He.Fa.free "int").ok K) rfl)
theorem Txt.z_range (T : Txt w K mg) : mg "range" = none := Hk.free_ok T.ns (T.e 7 (f := fun K => (He.Fa.free "range").ok K) rfl)
theorem Txt.g_BookError (T : Txt w K mg) : mg "BookError" = some (.ref (ga K "BookError")) := Hk.glo_ok T.ns (T.e 8 (f := fun K => (He.Fa.glo "BookError").ok K) rfl)
theorem Txt.g_InvalidCondition (T : Txt w K mg) : mg "InvalidCondition" = some (.ref (ga K "InvalidCondition")) := Hk.glo_ok T.ns (T.e 9 (f := fun K => (He.Fa.glo "InvalidCondition").ok K) rfl)
theorem Txt.g_Refusal (T : Txt w K mg) : mg "Refusal" = some (.ref (ga K "Refusal")) := Hk.glo_ok T.ns (T.e 10 (f := fun K => (He.Fa.glo "Refusal").ok K) rfl)
theorem Txt.g_NUMBERS (T : Txt w K mg) : mg "NUMBERS" = some (.ref (ga K "NUMBERS")) := Hk.glo_ok T.ns (T.e 11 (f := fun K => (He.Fa.glo "NUMBERS").ok K) rfl)
theorem Txt.o_NUMBERS (T : Txt w K mg) : ∀ H, tyV K "tuple" (.ref (ga K "NUMBERS")) H := Hk.tupO_ok (T.e 12 (f := fun K => Hk.tupO K "NUMBERS") rfl)
theorem Txt.t_NUMBERS (T : Txt w K mg) : ∀ H, SqT K H (ga K "NUMBERS") [.int 0, .int 1, .int 2] := fun H => He.tupB_ok (T.e 13 (f := fun K => He.tupB K "NUMBERS" [.int 0, .int 1, .int 2]) rfl) H
theorem Txt.g_PARTS (T : Txt w K mg) : mg "PARTS" = some (.ref (ga K "PARTS")) := Hk.glo_ok T.ns (T.e 14 (f := fun K => (He.Fa.glo "PARTS").ok K) rfl)
theorem Txt.kv_PARTS_0 (T : Txt w K mg) : PySem.W.nsIn K (ga K "PARTS") "always" = some (some (.ref (Hk.pa K "PARTS" "always"))) := He.eqO_ok (T.e 15 (f := fun K => Hk.keyB K "PARTS" "always") rfl)
theorem Txt.kt_PARTS_0 (T : Txt w K mg) : ∀ H, SqT K H (Hk.pa K "PARTS" "always") [] := fun H => Hk.tupA_ok (T.e 16 (f := fun K => Hk.tupAB K (Hk.pa K "PARTS" "always") []) rfl) H
theorem Txt.kv_PARTS_1 (T : Txt w K mg) : PySem.W.nsIn K (ga K "PARTS") "equal" = some (some (.ref (Hk.pa K "PARTS" "equal"))) := He.eqO_ok (T.e 17 (f := fun K => Hk.keyB K "PARTS" "equal") rfl)
theorem Txt.kt_PARTS_1 (T : Txt w K mg) : ∀ H, SqT K H (Hk.pa K "PARTS" "equal") [.str "number", .str "number"] := fun H => Hk.tupA_ok (T.e 18 (f := fun K => Hk.tupAB K (Hk.pa K "PARTS" "equal") [.str "number", .str "number"]) rfl) H
theorem Txt.kv_PARTS_2 (T : Txt w K mg) : PySem.W.nsIn K (ga K "PARTS") "below" = some (some (.ref (Hk.pa K "PARTS" "below"))) := He.eqO_ok (T.e 19 (f := fun K => Hk.keyB K "PARTS" "below") rfl)
theorem Txt.kt_PARTS_2 (T : Txt w K mg) : ∀ H, SqT K H (Hk.pa K "PARTS" "below") [.str "number", .str "number"] := fun H => Hk.tupA_ok (T.e 20 (f := fun K => Hk.tupAB K (Hk.pa K "PARTS" "below") [.str "number", .str "number"]) rfl) H
theorem Txt.kv_PARTS_3 (T : Txt w K mg) : PySem.W.nsIn K (ga K "PARTS") "unknown" = some (some (.ref (Hk.pa K "PARTS" "unknown"))) := He.eqO_ok (T.e 21 (f := fun K => Hk.keyB K "PARTS" "unknown") rfl)
theorem Txt.kt_PARTS_3 (T : Txt w K mg) : ∀ H, SqT K H (Hk.pa K "PARTS" "unknown") [.str "number"] := fun H => Hk.tupA_ok (T.e 22 (f := fun K => Hk.tupAB K (Hk.pa K "PARTS" "unknown") [.str "number"]) rfl) H
theorem Txt.kv_PARTS_4 (T : Txt w K mg) : PySem.W.nsIn K (ga K "PARTS") "quotient" = some (some (.ref (Hk.pa K "PARTS" "quotient"))) := He.eqO_ok (T.e 23 (f := fun K => Hk.keyB K "PARTS" "quotient") rfl)
theorem Txt.kt_PARTS_4 (T : Txt w K mg) : ∀ H, SqT K H (Hk.pa K "PARTS" "quotient") [.str "number", .str "number", .str "number"] := fun H => Hk.tupA_ok (T.e 24 (f := fun K => Hk.tupAB K (Hk.pa K "PARTS" "quotient") [.str "number", .str "number", .str "number"]) rfl) H
theorem Txt.kv_PARTS_5 (T : Txt w K mg) : PySem.W.nsIn K (ga K "PARTS") "not" = some (some (.ref (Hk.pa K "PARTS" "not"))) := He.eqO_ok (T.e 25 (f := fun K => Hk.keyB K "PARTS" "not") rfl)
theorem Txt.kt_PARTS_5 (T : Txt w K mg) : ∀ H, SqT K H (Hk.pa K "PARTS" "not") [.str "condition"] := fun H => Hk.tupA_ok (T.e 26 (f := fun K => Hk.tupAB K (Hk.pa K "PARTS" "not") [.str "condition"]) rfl) H
theorem Txt.kv_PARTS_6 (T : Txt w K mg) : PySem.W.nsIn K (ga K "PARTS") "and" = some (some (.ref (Hk.pa K "PARTS" "and"))) := He.eqO_ok (T.e 27 (f := fun K => Hk.keyB K "PARTS" "and") rfl)
theorem Txt.kt_PARTS_6 (T : Txt w K mg) : ∀ H, SqT K H (Hk.pa K "PARTS" "and") [.str "condition", .str "condition"] := fun H => Hk.tupA_ok (T.e 28 (f := fun K => Hk.tupAB K (Hk.pa K "PARTS" "and") [.str "condition", .str "condition"]) rfl) H
theorem Txt.kv_PARTS_7 (T : Txt w K mg) : PySem.W.nsIn K (ga K "PARTS") "or" = some (some (.ref (Hk.pa K "PARTS" "or"))) := He.eqO_ok (T.e 29 (f := fun K => Hk.keyB K "PARTS" "or") rfl)
theorem Txt.kt_PARTS_7 (T : Txt w K mg) : ∀ H, SqT K H (Hk.pa K "PARTS" "or") [.str "condition", .str "condition"] := fun H => Hk.tupA_ok (T.e 30 (f := fun K => Hk.tupAB K (Hk.pa K "PARTS" "or") [.str "condition", .str "condition"]) rfl) H
theorem Txt.g__has_form (T : Txt w K mg) : mg "_has_form" = some (.ref (ga K "_has_form")) := Hk.glo_ok T.ns (T.e 31 (f := fun K => (He.Fa.glo "_has_form").ok K) rfl)
theorem Txt.g_check_condition (T : Txt w K mg) : mg "check_condition" = some (.ref (ga K "check_condition")) := Hk.glo_ok T.ns (T.e 32 (f := fun K => (He.Fa.glo "check_condition").ok K) rfl)
theorem Txt.g__law_box (T : Txt w K mg) : mg "_law_box" = some (.ref (ga K "_law_box")) := Hk.glo_ok T.ns (T.e 33 (f := fun K => (He.Fa.glo "_law_box").ok K) rfl)
theorem Txt.g__law_draw (T : Txt w K mg) : mg "_law_draw" = some (.ref (ga K "_law_draw")) := Hk.glo_ok T.ns (T.e 34 (f := fun K => (He.Fa.glo "_law_draw").ok K) rfl)
theorem Txt.g__law_pick (T : Txt w K mg) : mg "_law_pick" = some (.ref (ga K "_law_pick")) := Hk.glo_ok T.ns (T.e 35 (f := fun K => (He.Fa.glo "_law_pick").ok K) rfl)
theorem Txt.g__law_condition (T : Txt w K mg) : mg "_law_condition" = some (.ref (ga K "_law_condition")) := Hk.glo_ok T.ns (T.e 36 (f := fun K => (He.Fa.glo "_law_condition").ok K) rfl)
theorem Txt.g__law_wraps (T : Txt w K mg) : mg "_law_wraps" = some (.ref (ga K "_law_wraps")) := Hk.glo_ok T.ns (T.e 37 (f := fun K => (He.Fa.glo "_law_wraps").ok K) rfl)
theorem Txt.g__law_wrapped (T : Txt w K mg) : mg "_law_wrapped" = some (.ref (ga K "_law_wrapped")) := Hk.glo_ok T.ns (T.e 38 (f := fun K => (He.Fa.glo "_law_wrapped").ok K) rfl)
theorem Txt.g__law_spoilt (T : Txt w K mg) : mg "_law_spoilt" = some (.ref (ga K "_law_spoilt")) := Hk.glo_ok T.ns (T.e 39 (f := fun K => (He.Fa.glo "_law_spoilt").ok K) rfl)
theorem Txt.g__law_fits (T : Txt w K mg) : mg "_law_fits" = some (.ref (ga K "_law_fits")) := Hk.glo_ok T.ns (T.e 40 (f := fun K => (He.Fa.glo "_law_fits").ok K) rfl)
theorem Txt.g__law_checked (T : Txt w K mg) : mg "_law_checked" = some (.ref (ga K "_law_checked")) := Hk.glo_ok T.ns (T.e 41 (f := fun K => (He.Fa.glo "_law_checked").ok K) rfl)
theorem Txt.g__law_by_default (T : Txt w K mg) : mg "_law_by_default" = some (.ref (ga K "_law_by_default")) := Hk.glo_ok T.ns (T.e 42 (f := fun K => (He.Fa.glo "_law_by_default").ok K) rfl)
theorem Txt.g_law (T : Txt w K mg) : mg "law" = some (.ref (ga K "law")) := Hk.glo_ok T.ns (T.e 43 (f := fun K => (He.Fa.glo "law").ok K) rfl)
theorem Txt.kt_BookError_BookError (T : Txt w K mg) : PySem.W.kitOne K (.ref (ga K "BookError")) (.ref (ga K "BookError")) = some true := of_decide_eq_true (T.e 44 (f := fun K => Hk.kitB K "BookError" "BookError" true) rfl)
theorem Txt.k_BookError_BookError (T : Txt w K mg) : PySem.W.exmOne K (.ref (ga K "BookError")) (.ref (ga K "BookError")) = some true := He.exm_ok (T.e 45 (f := fun K => (He.Fa.exm "BookError" "BookError" true).ok K) rfl)
theorem Txt.kt_BookError_InvalidCondition (T : Txt w K mg) : PySem.W.kitOne K (.ref (ga K "BookError")) (.ref (ga K "InvalidCondition")) = some false := of_decide_eq_true (T.e 46 (f := fun K => Hk.kitB K "BookError" "InvalidCondition" false) rfl)
theorem Txt.k_BookError_InvalidCondition (T : Txt w K mg) : PySem.W.exmOne K (.ref (ga K "BookError")) (.ref (ga K "InvalidCondition")) = some false := He.exm_ok (T.e 47 (f := fun K => (He.Fa.exm "BookError" "InvalidCondition" false).ok K) rfl)
theorem Txt.kt_BookError_Refusal (T : Txt w K mg) : PySem.W.kitOne K (.ref (ga K "BookError")) (.ref (ga K "Refusal")) = some false := of_decide_eq_true (T.e 48 (f := fun K => Hk.kitB K "BookError" "Refusal" false) rfl)
theorem Txt.k_BookError_Refusal (T : Txt w K mg) : PySem.W.exmOne K (.ref (ga K "BookError")) (.ref (ga K "Refusal")) = some false := He.exm_ok (T.e 49 (f := fun K => (He.Fa.exm "BookError" "Refusal" false).ok K) rfl)
theorem Txt.ec_BookError (T : Txt w K mg) : ExcC K (ga K "BookError") := Hk.excC_ok (T.e 50 (f := fun K => Hk.excCB K "BookError") rfl)
theorem Txt.x_BookError (T : Txt w K mg) : Hk.ExcF K "BookError" [.type "ValueError", .type "Exception", .type "BaseException", .type "object"] := Hk.exc_ok (T.e 51 (f := fun K => Hk.excB K "BookError" [.type "ValueError", .type "Exception", .type "BaseException", .type "object"]) rfl)
theorem Txt.kt_InvalidCondition_BookError (T : Txt w K mg) : PySem.W.kitOne K (.ref (ga K "InvalidCondition")) (.ref (ga K "BookError")) = some true := of_decide_eq_true (T.e 52 (f := fun K => Hk.kitB K "InvalidCondition" "BookError" true) rfl)
theorem Txt.k_InvalidCondition_BookError (T : Txt w K mg) : PySem.W.exmOne K (.ref (ga K "InvalidCondition")) (.ref (ga K "BookError")) = some true := He.exm_ok (T.e 53 (f := fun K => (He.Fa.exm "InvalidCondition" "BookError" true).ok K) rfl)
theorem Txt.kt_InvalidCondition_InvalidCondition (T : Txt w K mg) : PySem.W.kitOne K (.ref (ga K "InvalidCondition")) (.ref (ga K "InvalidCondition")) = some true := of_decide_eq_true (T.e 54 (f := fun K => Hk.kitB K "InvalidCondition" "InvalidCondition" true) rfl)
theorem Txt.k_InvalidCondition_InvalidCondition (T : Txt w K mg) : PySem.W.exmOne K (.ref (ga K "InvalidCondition")) (.ref (ga K "InvalidCondition")) = some true := He.exm_ok (T.e 55 (f := fun K => (He.Fa.exm "InvalidCondition" "InvalidCondition" true).ok K) rfl)
theorem Txt.kt_InvalidCondition_Refusal (T : Txt w K mg) : PySem.W.kitOne K (.ref (ga K "InvalidCondition")) (.ref (ga K "Refusal")) = some false := of_decide_eq_true (T.e 56 (f := fun K => Hk.kitB K "InvalidCondition" "Refusal" false) rfl)
theorem Txt.k_InvalidCondition_Refusal (T : Txt w K mg) : PySem.W.exmOne K (.ref (ga K "InvalidCondition")) (.ref (ga K "Refusal")) = some false := He.exm_ok (T.e 57 (f := fun K => (He.Fa.exm "InvalidCondition" "Refusal" false).ok K) rfl)
theorem Txt.ec_InvalidCondition (T : Txt w K mg) : ExcC K (ga K "InvalidCondition") := Hk.excC_ok (T.e 58 (f := fun K => Hk.excCB K "InvalidCondition") rfl)
theorem Txt.x_InvalidCondition (T : Txt w K mg) : Hk.ExcF K "InvalidCondition" [.type "ValueError", .type "Exception", .type "BaseException", .type "object"] := Hk.exc_ok (T.e 59 (f := fun K => Hk.excB K "InvalidCondition" [.type "ValueError", .type "Exception", .type "BaseException", .type "object"]) rfl)
theorem Txt.kt_Refusal_BookError (T : Txt w K mg) : PySem.W.kitOne K (.ref (ga K "Refusal")) (.ref (ga K "BookError")) = some true := of_decide_eq_true (T.e 60 (f := fun K => Hk.kitB K "Refusal" "BookError" true) rfl)
theorem Txt.k_Refusal_BookError (T : Txt w K mg) : PySem.W.exmOne K (.ref (ga K "Refusal")) (.ref (ga K "BookError")) = some true := He.exm_ok (T.e 61 (f := fun K => (He.Fa.exm "Refusal" "BookError" true).ok K) rfl)
theorem Txt.kt_Refusal_InvalidCondition (T : Txt w K mg) : PySem.W.kitOne K (.ref (ga K "Refusal")) (.ref (ga K "InvalidCondition")) = some false := of_decide_eq_true (T.e 62 (f := fun K => Hk.kitB K "Refusal" "InvalidCondition" false) rfl)
theorem Txt.k_Refusal_InvalidCondition (T : Txt w K mg) : PySem.W.exmOne K (.ref (ga K "Refusal")) (.ref (ga K "InvalidCondition")) = some false := He.exm_ok (T.e 63 (f := fun K => (He.Fa.exm "Refusal" "InvalidCondition" false).ok K) rfl)
theorem Txt.kt_Refusal_Refusal (T : Txt w K mg) : PySem.W.kitOne K (.ref (ga K "Refusal")) (.ref (ga K "Refusal")) = some true := of_decide_eq_true (T.e 64 (f := fun K => Hk.kitB K "Refusal" "Refusal" true) rfl)
theorem Txt.k_Refusal_Refusal (T : Txt w K mg) : PySem.W.exmOne K (.ref (ga K "Refusal")) (.ref (ga K "Refusal")) = some true := He.exm_ok (T.e 65 (f := fun K => (He.Fa.exm "Refusal" "Refusal" true).ok K) rfl)
theorem Txt.ec_Refusal (T : Txt w K mg) : ExcC K (ga K "Refusal") := Hk.excC_ok (T.e 66 (f := fun K => Hk.excCB K "Refusal") rfl)
theorem Txt.x_Refusal (T : Txt w K mg) : Hk.ExcF K "Refusal" [.type "ValueError", .type "Exception", .type "BaseException", .type "object"] := Hk.exc_ok (T.e 67 (f := fun K => Hk.excB K "Refusal" [.type "ValueError", .type "Exception", .type "BaseException", .type "object"]) rfl)
theorem Txt.f_has_form (T : Txt w K mg) : ∃ fd, FunD K "_has_form" "_has_form" (defArgs s_has_form) (defBody s_has_form) (defScope s_has_form) [] [] (ga K "_has_form") fd := T.d 0 (d := d_has_form) rfl
theorem Txt.f_check_condition (T : Txt w K mg) : ∃ fd, FunD K "check_condition" "check_condition" (defArgs s_check_condition) (defBody s_check_condition) (defScope s_check_condition) [] [("levels", V.int 10), ("quotients", V.bl true)] (ga K "check_condition") fd := T.d 1 (d := d_check_condition) rfl
theorem Txt.f_box (T : Txt w K mg) : ∃ fd, FunD K "_law_box" "_law_box" (defArgs s_box) (defBody s_box) (defScope s_box) [] [] (ga K "_law_box") fd := T.d 2 (d := d_box) rfl
theorem Txt.f_draw (T : Txt w K mg) : ∃ fd, FunD K "_law_draw" "_law_draw" (defArgs s_draw) (defBody s_draw) (defScope s_draw) [] [] (ga K "_law_draw") fd := T.d 3 (d := d_draw) rfl
theorem Txt.f_pick (T : Txt w K mg) : ∃ fd, FunD K "_law_pick" "_law_pick" (defArgs s_pick) (defBody s_pick) (defScope s_pick) [] [] (ga K "_law_pick") fd := T.d 4 (d := d_pick) rfl
theorem Txt.f_condition (T : Txt w K mg) : ∃ fd, FunD K "_law_condition" "_law_condition" (defArgs s_condition) (defBody s_condition) (defScope s_condition) [] [] (ga K "_law_condition") fd := T.d 5 (d := d_condition) rfl
theorem Txt.f_wraps (T : Txt w K mg) : ∃ fd, FunD K "_law_wraps" "_law_wraps" (defArgs s_wraps) (defBody s_wraps) (defScope s_wraps) [] [] (ga K "_law_wraps") fd := T.d 6 (d := d_wraps) rfl
theorem Txt.f_wrapped (T : Txt w K mg) : ∃ fd, FunD K "_law_wrapped" "_law_wrapped" (defArgs s_wrapped) (defBody s_wrapped) (defScope s_wrapped) [] [] (ga K "_law_wrapped") fd := T.d 7 (d := d_wrapped) rfl
theorem Txt.f_spoilt (T : Txt w K mg) : ∃ fd, FunD K "_law_spoilt" "_law_spoilt" (defArgs s_spoilt) (defBody s_spoilt) (defScope s_spoilt) [] [] (ga K "_law_spoilt") fd := T.d 8 (d := d_spoilt) rfl
theorem Txt.f_fits (T : Txt w K mg) : ∃ fd, FunD K "_law_fits" "_law_fits" (defArgs s_fits) (defBody s_fits) (defScope s_fits) [] [] (ga K "_law_fits") fd := T.d 9 (d := d_fits) rfl
theorem Txt.f_checked (T : Txt w K mg) : ∃ fd, FunD K "_law_checked" "_law_checked" (defArgs s_checked) (defBody s_checked) (defScope s_checked) [] [] (ga K "_law_checked") fd := T.d 10 (d := d_checked) rfl
theorem Txt.f_by_default (T : Txt w K mg) : ∃ fd, FunD K "_law_by_default" "_law_by_default" (defArgs s_by_default) (defBody s_by_default) (defScope s_by_default) [] [] (ga K "_law_by_default") fd := T.d 11 (d := d_by_default) rfl
theorem Txt.f_law (T : Txt w K mg) : ∃ fd, FunD K "law" "law" (defArgs s_law) (defBody s_law) (defScope s_law) [] [] (ga K "law") fd := T.d 12 (d := d_law) rfl
end
/-! ### the head -/
abbrev R : PySem.W.OpenRow := PySem.W.OpenLaw.row PySem.Challenge.rw_bookstogether_k02_conditions_checked
abbrev hk : PySem.W.Hook := Hk.hookW 5 ex fn tabs
def ob (s : PySem.W.SharedT) : Hk.AlE := Hk.obsWG 5 ex fn tabs (HandSHeadRun.getT s)
theorem ob_eq (s : PySem.W.SharedT) : ob s = hk.obs s.abs := Hk.obsWG_eq (HandSHeadRun.getT_eq s)
def loose : List PySem.Str := ["BookError", "InvalidCondition", "Refusal", "NUMBERS", "PARTS", "_has_form", "check_condition", "_law_box", "_law_draw", "_law_pick", "_law_condition", "_law_wraps", "_law_wrapped", "_law_spoilt", "_law_fits", "_law_checked", "_law_by_default"]
set_option maxHeartbeats 0 in
theorem run (w : World) : HandSHeadRun.RunEq R (PySem.W.view R.prog [20]) hk ob 6000 loose w := by
  obtain ⟨dr, p⟩ := w
  rw [Hk.row_eq p]
  generalize p.followText "special-get-raises" = b
  cases b
  · intro os
    kernel_rfl
  · intro os
    kernel_rfl
end K02

end
section
set_option Elab.async false
set_option linter.all false
set_option maxRecDepth 100000
set_option maxHeartbeats 4000000
/-! ### readings by themselves -/
open PySem PySem.Spec PyProof.Rows L2 in
local macro_rules | `(tactic| k_allIn) => `(tactic| first | (with_reducible assumption) | exact upd_same | (refine Hk.same_upd (by assumption) _ _ ?_; k_allIn) | (refine (upd_ne (by first | assumption | exact Ne.symm (by assumption))).trans ?_; k_allIn))
open PySem PySem.Spec PyProof.Rows L2 in
local macro_rules | `(tactic| k_memK) => `(tactic| first | (with_reducible exact rfl) | (with_reducible assumption) | exact rfl | exact Hk.lk_hd | k_allIn | exact Or.inl (Or.inl (by k_allIn)) | exact ⟨_, rfl⟩ | exact Or.inl ⟨rfl, _, by assumption⟩ | exact Or.inl ⟨rfl, _, Or.inl (Or.inl (by k_allIn))⟩ | exact (fun _ h => h) | exact ClsV.own _ | exact ClsV.ty _ | exact Or.inl ‹_› | exact Or.inr ‹_› | lcg_src | exact Or.inl ⟨by omega, by omega⟩ | exact Or.inr ⟨by omega, by omega⟩ | exact ⟨by omega, by omega⟩ | exact Nat.le_of_lt (small1000 (by simp)) | exact small1000 (by simp) | exact Nat.le_of_lt (small1000 (by omega)) | exact small1000 (by omega) | omega | assumption | decide +kernel)
local macro_rules | `(tactic| lcg_sub) => `(tactic| (refine And.intro ?_ ?_; k_memK))
local macro_rules | `(tactic| k_subL) => `(tactic| (repeat (first | (apply Exists.intro) | lcg_sub | (refine Or.inl ⟨_, rfl, ?_⟩) | (refine Or.inr ⟨_, rfl, ?_⟩))))
namespace K02
open PySem PySem.Spec PyProof.Rows L2
open He (ga ma ba)
/-! ### conditions, spoilt ones too -/
inductive Ce where
  | eql (c k : Option Int)
  | lss (c k : Option Int)
  | unk (c : Option Int)
  | alw
  | quo (c d k : Option Int)
  | neg (x : Ce)
  | and (x y : Ce)
  | or (x y : Ce)
  | bad
def cellV : Option Int → V
  | none => .non
  | some i => .int i
def ars : List (Str × Nat) := [("always", 0), ("equal", 2), ("below", 2), ("unknown", 1), ("quotient", 3), ("not", 1), ("and", 2), ("or", 2)]
/-- items that are no condition by their first word or their number -/
def badL (xs : List V) : Prop := xs = [] ∨ ∃ z vs, xs = .str z :: vs ∧ vs.length ≤ 6 ∧ ((∀ n, (z, n) ∉ ars) ∨ ∃ n, (z, n) ∈ ars ∧ vs.length ≠ n)
def CeAt (K : PySem.W.Frag) (H : Hp) : Ce → V → Prop
  | .eql c k, v => ∃ a, v = .ref a ∧ SqT K H a [.str "equal", cellV c, cellV k]
  | .lss c k, v => ∃ a, v = .ref a ∧ SqT K H a [.str "below", cellV c, cellV k]
  | .unk c, v => ∃ a, v = .ref a ∧ SqT K H a [.str "unknown", cellV c]
  | .alw, v => ∃ a, v = .ref a ∧ SqT K H a [.str "always"]
  | .quo c d k, v => ∃ a, v = .ref a ∧ SqT K H a [.str "quotient", cellV c, cellV d, cellV k]
  | .neg x, v => ∃ a u, v = .ref a ∧ SqT K H a [.str "not", u] ∧ CeAt K H x u
  | .and x y, v => ∃ a u t, v = .ref a ∧ SqT K H a [.str "and", u, t] ∧ CeAt K H x u ∧ CeAt K H y t
  | .or x y, v => ∃ a u t, v = .ref a ∧ SqT K H a [.str "or", u, t] ∧ CeAt K H x u ∧ CeAt K H y t
  | .bad, v => ∃ a xs, v = .ref a ∧ SqT K H a xs ∧ badL xs
theorem SqT.mono {K : PySem.W.Frag} {H H' : Hp} {a : Addr} {xs : List V} (h : SqT K H a xs) (s : Same H H') : SqT K H' a xs := by
  rcases h with (h | ⟨o, h⟩) | h
  · exact .inl (.inl (s _ _ h))
  · exact .inl (.inr ⟨o, s _ _ h⟩)
  · exact .inr h
theorem CeAt.mono {K : PySem.W.Frag} {H H' : Hp} (s : Same H H') : ∀ {c : Ce} {v : V}, CeAt K H c v → CeAt K H' c v
  | .eql .., _, ⟨a, e, h⟩ => ⟨a, e, SqT.mono h s⟩
  | .lss .., _, ⟨a, e, h⟩ => ⟨a, e, SqT.mono h s⟩
  | .unk .., _, ⟨a, e, h⟩ => ⟨a, e, SqT.mono h s⟩
  | .alw, _, ⟨a, e, h⟩ => ⟨a, e, SqT.mono h s⟩
  | .quo .., _, ⟨a, e, h⟩ => ⟨a, e, SqT.mono h s⟩
  | .neg _, _, ⟨a, u, e, h, k⟩ => ⟨a, u, e, SqT.mono h s, CeAt.mono s k⟩
  | .and .., _, ⟨a, u, t, e, h, k, l⟩ => ⟨a, u, t, e, SqT.mono h s, CeAt.mono s k, CeAt.mono s l⟩
  | .or .., _, ⟨a, u, t, e, h, k, l⟩ => ⟨a, u, t, e, SqT.mono h s, CeAt.mono s k, CeAt.mono s l⟩
  | .bad, _, ⟨a, xs, e, h, b⟩ => ⟨a, xs, e, SqT.mono h s, b⟩
def num : Option Int → Bool
  | none => false
  | some i => decide (i = 0) || (decide (i = 1) || decide (i = 2))
/-- a condition with at most so many levels, quotients allowed or not -/
def ck (lv : Int) (q : Bool) : Ce → Bool
  | .bad => false
  | .alw => decide (1 ≤ lv)
  | .eql c k => decide (1 ≤ lv) && (num c && num k)
  | .lss c k => decide (1 ≤ lv) && (num c && num k)
  | .unk c => decide (1 ≤ lv) && num c
  | .quo c d k => decide (1 ≤ lv) && (q && (num c && (num d && num k)))
  | .neg x => decide (1 ≤ lv) && ck (lv - 1) q x
  | .and x y => decide (1 ≤ lv) && (ck (lv - 1) q x && ck (lv - 1) q y)
  | .or x y => decide (1 ≤ lv) && (ck (lv - 1) q x && ck (lv - 1) q y)
def Ce.fine : Ce → Bool
  | .bad => false
  | _ => true
/-- a part: a number or a condition, b whether it is as asked -/
def PartAt (K : PySem.W.Frag) (H : Hp) (lv : Int) (q : Bool) (k v : V) (b : Bool) : Prop := (k = .str "condition" ∧ ∃ x, CeAt K H x v ∧ b = ck (lv - 1) q x) ∨ (k = .str "number" ∧ ∃ o, v = cellV o ∧ b = num o)
structure Form (K : PySem.W.Frag) (H : Hp) (lv : Int) (q : Bool) (c : Ce) (a t : Addr) (w : Str) (vs ks : List V) (bs : List Bool) : Prop where
  sq : SqT K H a (.str w :: vs)
  ar : (w, vs.length) ∈ ars
  key : PySem.W.nsIn K (ga K "PARTS") w = some (some (.ref t))
  kt : ∀ H, SqT K H t ks
  lk : ks.length = vs.length
  lb : bs.length = vs.length
  lo : vs.length ≤ 6
  part : ∀ (i : Nat) k x b, ks[i]? = some k → vs[i]? = some x → bs[i]? = some b → PartAt K H lv q k x b
  ckd : ck lv q c = (decide (1 ≤ lv) && ((!decide (w = "quotient") || q) && bs.all id))
  con : (∀ k ∈ ks, k = .str "condition") ∧ (w = "not" ∨ w = "and" ∨ w = "or") ∨ (∀ k ∈ ks, k = .str "number") ∧ ¬ (w = "not" ∨ w = "and" ∨ w = "or")
theorem in_num (o : Option Int) : inV (cellV o) [V.int 0, V.int 1, V.int 2] = num o := by
  cases o with
  | none => rfl
  | some i =>
    unfold inV num
    simp only [List.any_cons, List.any_nil, Bool.or_false]
    show (decide ((0 : Int) = i) || (decide ((1 : Int) = i) || decide ((2 : Int) = i))) = _
    simp [eq_comm]
theorem nth1 {α : Type} {P : α → Prop} {x : α} {i : Nat} {y : α} (h : [x][i]? = some y) (p : P x) : P y := by
  match i, h with
  | 0, h => cases h; exact p
  | i + 1, h => simp at h
section
variable {P : Program} {w : World} {K : PySem.W.Frag} {mg : Str → Option Value} {base : Heap}
theorem part_num {H : Hp} {lv : Int} {q : Bool} {o : Option Int} : PartAt K H lv q (.str "number") (cellV o) (num o) := .inr ⟨rfl, o, rfl, rfl⟩
theorem part_con {H : Hp} {lv : Int} {q : Bool} {x : Ce} {v : V} (h : CeAt K H x v) : PartAt K H lv q (.str "condition") v (ck (lv - 1) q x) := .inl ⟨rfl, x, h, rfl⟩
theorem form (T : Txt w K mg) {H : Hp} (lv : Int) (q : Bool) {c : Ce} {v : V} (h : CeAt K H c v) (hf : c.fine = true) : ∃ a t w vs ks bs, v = .ref a ∧ Form K H lv q c a t w vs ks bs := by
  cases c with
  | bad => cases hf
  | alw =>
    obtain ⟨a, rfl, h⟩ := h
    refine ⟨a, _, _, [], [], [], rfl, h, by decide +kernel, T.kv_PARTS_0, T.kt_PARTS_0, rfl, rfl, by decide, fun i k x b e => by simp at e, ?_, .inr ⟨nofun, by decide +kernel⟩⟩
    show decide (1 ≤ lv) = (decide (1 ≤ lv) && ((!decide (("always" : Str) = "quotient") || q) && true))
    rw [show decide (("always" : Str) = "quotient") = false by decide +kernel]
    simp
  | eql c k =>
    obtain ⟨a, rfl, h⟩ := h
    refine ⟨a, _, _, [cellV c, cellV k], [.str "number", .str "number"], [num c, num k], rfl, h, (show (("equal" : Str), 2) ∈ ars by decide +kernel), T.kv_PARTS_1, T.kt_PARTS_1, rfl, rfl, (show 2 ≤ 6 by decide), fun i k x b e1 e2 e3 => ?_, ?_, .inr ⟨by simp, by decide +kernel⟩⟩
    · match i, e1, e2, e3 with
      | 0, e1, e2, e3 => cases e1; cases e2; cases e3; exact part_num
      | 1, e1, e2, e3 => cases e1; cases e2; cases e3; exact part_num
      | i + 2, e1, e2, e3 => simp at e1
    · unfold ck
      rw [show decide (("equal" : Str) = "quotient") = false by decide +kernel]
      simp
  | lss c k =>
    obtain ⟨a, rfl, h⟩ := h
    refine ⟨a, _, _, [cellV c, cellV k], [.str "number", .str "number"], [num c, num k], rfl, h, (show (("below" : Str), 2) ∈ ars by decide +kernel), T.kv_PARTS_2, T.kt_PARTS_2, rfl, rfl, (show 2 ≤ 6 by decide), fun i k x b e1 e2 e3 => ?_, ?_, .inr ⟨by simp, by decide +kernel⟩⟩
    · match i, e1, e2, e3 with
      | 0, e1, e2, e3 => cases e1; cases e2; cases e3; exact part_num
      | 1, e1, e2, e3 => cases e1; cases e2; cases e3; exact part_num
      | i + 2, e1, e2, e3 => simp at e1
    · unfold ck
      rw [show decide (("below" : Str) = "quotient") = false by decide +kernel]
      simp
  | unk c =>
    obtain ⟨a, rfl, h⟩ := h
    refine ⟨a, _, _, [cellV c], [.str "number"], [num c], rfl, h, (show (("unknown" : Str), 1) ∈ ars by decide +kernel), T.kv_PARTS_3, T.kt_PARTS_3, rfl, rfl, (show 1 ≤ 6 by decide), fun i k x b e1 e2 e3 => ?_, ?_, .inr ⟨by simp, by decide +kernel⟩⟩
    · match i, e1, e2, e3 with
      | 0, e1, e2, e3 => cases e1; cases e2; cases e3; exact part_num
      | i + 1, e1, e2, e3 => simp at e1
    · unfold ck
      rw [show decide (("unknown" : Str) = "quotient") = false by decide +kernel]
      simp
  | quo c d k =>
    obtain ⟨a, rfl, h⟩ := h
    refine ⟨a, _, _, [cellV c, cellV d, cellV k], [.str "number", .str "number", .str "number"], [num c, num d, num k], rfl, h, (show (("quotient" : Str), 3) ∈ ars by decide +kernel), T.kv_PARTS_4, T.kt_PARTS_4, rfl, rfl, (show 3 ≤ 6 by decide), fun i k x b e1 e2 e3 => ?_, ?_, .inr ⟨by simp, by decide +kernel⟩⟩
    · match i, e1, e2, e3 with
      | 0, e1, e2, e3 => cases e1; cases e2; cases e3; exact part_num
      | 1, e1, e2, e3 => cases e1; cases e2; cases e3; exact part_num
      | 2, e1, e2, e3 => cases e1; cases e2; cases e3; exact part_num
      | i + 3, e1, e2, e3 => simp at e1
    · unfold ck
      rw [show decide (("quotient" : Str) = "quotient") = true by decide +kernel]
      simp
  | neg x =>
    obtain ⟨a, u, rfl, h, hx⟩ := h
    refine ⟨a, _, _, [u], [.str "condition"], [ck (lv - 1) q x], rfl, h, (show (("not" : Str), 1) ∈ ars by decide +kernel), T.kv_PARTS_5, T.kt_PARTS_5, rfl, rfl, (show 1 ≤ 6 by decide), fun i k x b e1 e2 e3 => ?_, ?_, .inl ⟨by simp, by decide +kernel⟩⟩
    · match i, e1, e2, e3 with
      | 0, e1, e2, e3 => cases e1; cases e2; cases e3; exact part_con hx
      | i + 1, e1, e2, e3 => simp at e1
    · show (decide (1 ≤ lv) && ck (lv - 1) q x) = _
      rw [show decide (("not" : Str) = "quotient") = false by decide +kernel]
      simp
  | and x y =>
    obtain ⟨a, u, t, rfl, h, hx, hy⟩ := h
    refine ⟨a, _, _, [u, t], [.str "condition", .str "condition"], [ck (lv - 1) q x, ck (lv - 1) q y], rfl, h, (show (("and" : Str), 2) ∈ ars by decide +kernel), T.kv_PARTS_6, T.kt_PARTS_6, rfl, rfl, (show 2 ≤ 6 by decide), fun i k x b e1 e2 e3 => ?_, ?_, .inl ⟨by simp, by decide +kernel⟩⟩
    · match i, e1, e2, e3 with
      | 0, e1, e2, e3 => cases e1; cases e2; cases e3; exact part_con hx
      | 1, e1, e2, e3 => cases e1; cases e2; cases e3; exact part_con hy
      | i + 2, e1, e2, e3 => simp at e1
    · show (decide (1 ≤ lv) && (ck (lv - 1) q x && ck (lv - 1) q y)) = _
      rw [show decide (("and" : Str) = "quotient") = false by decide +kernel]
      simp
  | or x y =>
    obtain ⟨a, u, t, rfl, h, hx, hy⟩ := h
    refine ⟨a, _, _, [u, t], [.str "condition", .str "condition"], [ck (lv - 1) q x, ck (lv - 1) q y], rfl, h, (show (("or" : Str), 2) ∈ ars by decide +kernel), T.kv_PARTS_7, T.kt_PARTS_7, rfl, rfl, (show 2 ≤ 6 by decide), fun i k x b e1 e2 e3 => ?_, ?_, .inl ⟨by simp, by decide +kernel⟩⟩
    · match i, e1, e2, e3 with
      | 0, e1, e2, e3 => cases e1; cases e2; cases e3; exact part_con hx
      | 1, e1, e2, e3 => cases e1; cases e2; cases e3; exact part_con hy
      | i + 2, e1, e2, e3 => simp at e1
    · show (decide (1 ≤ lv) && (ck (lv - 1) q x && ck (lv - 1) q y)) = _
      rw [show decide (("or" : Str) = "quotient") = false by decide +kernel]
      simp
end
end K02


end
section
set_option Elab.async false
set_option linter.all false
set_option maxRecDepth 100000
set_option maxHeartbeats 4000000
/-! ### readings by themselves -/
open PySem PySem.Spec PyProof.Rows L2 in
local macro_rules | `(tactic| k_allIn) => `(tactic| first | (with_reducible assumption) | exact upd_same | (refine Hk.same_upd (by assumption) _ _ ?_; k_allIn) | (refine (upd_ne (by first | assumption | exact Ne.symm (by assumption))).trans ?_; k_allIn))
open PySem PySem.Spec PyProof.Rows L2 in
local macro_rules | `(tactic| k_memK) => `(tactic| first | (with_reducible exact rfl) | (with_reducible assumption) | exact rfl | exact Hk.lk_hd | k_allIn | exact Or.inl (Or.inl (by k_allIn)) | exact ⟨_, rfl⟩ | exact Or.inl ⟨rfl, _, by assumption⟩ | exact Or.inl ⟨rfl, _, Or.inl (Or.inl (by k_allIn))⟩ | exact (fun _ h => h) | exact ClsV.own _ | exact ClsV.ty _ | exact Or.inl ‹_› | exact Or.inr ‹_› | lcg_src | exact Or.inl ⟨by omega, by omega⟩ | exact Or.inr ⟨by omega, by omega⟩ | exact ⟨by omega, by omega⟩ | exact Nat.le_of_lt (small1000 (by simp)) | exact small1000 (by simp) | exact Nat.le_of_lt (small1000 (by omega)) | exact small1000 (by omega) | omega | assumption | decide +kernel)
local macro_rules | `(tactic| lcg_sub) => `(tactic| (refine And.intro ?_ ?_; k_memK))
local macro_rules | `(tactic| k_subL) => `(tactic| (repeat (first | (apply Exists.intro) | lcg_sub | (refine Or.inl ⟨_, rfl, ?_⟩) | (refine Or.inr ⟨_, rfl, ?_⟩))))
namespace K02
open PySem PySem.Spec PyProof.Rows L2
open He (ga ma ba)
def sp_has_form (K : PySem.W.Frag) : Sp := fun vs H Q _ => ∃ c ce, vs = [c] ∧ CeAt K H ce c ∧ Q (.bl ce.fine) H
section
variable {P : Program} {w : World} {K : PySem.W.Frag} {mg : Str → Option Value} {base : Heap}
theorem Txt.key_of (T : Txt w K mg) {z : Str} {n : Nat} (h : (z, n) ∈ ars) : ∃ t ks, PySem.W.nsIn K (ga K "PARTS") z = some (some (.ref t)) ∧ (∀ H, SqT K H t ks) ∧ ks.length = n := by
  unfold ars at h
  simp only [List.mem_cons, List.not_mem_nil, or_false, Prod.mk.injEq] at h
  rcases h with ⟨rfl, rfl⟩ | ⟨rfl, rfl⟩ | ⟨rfl, rfl⟩ | ⟨rfl, rfl⟩ | ⟨rfl, rfl⟩ | ⟨rfl, rfl⟩ | ⟨rfl, rfl⟩ | ⟨rfl, rfl⟩
  · exact ⟨_, _, T.kv_PARTS_0, T.kt_PARTS_0, rfl⟩
  · exact ⟨_, _, T.kv_PARTS_1, T.kt_PARTS_1, rfl⟩
  · exact ⟨_, _, T.kv_PARTS_2, T.kt_PARTS_2, rfl⟩
  · exact ⟨_, _, T.kv_PARTS_3, T.kt_PARTS_3, rfl⟩
  · exact ⟨_, _, T.kv_PARTS_4, T.kt_PARTS_4, rfl⟩
  · exact ⟨_, _, T.kv_PARTS_5, T.kt_PARTS_5, rfl⟩
  · exact ⟨_, _, T.kv_PARTS_6, T.kt_PARTS_6, rfl⟩
  · exact ⟨_, _, T.kv_PARTS_7, T.kt_PARTS_7, rfl⟩
theorem ok_has_form (T : Txt w K mg) : Hk.GOk P w K mg base CX0 1 "_has_form" ["condition"] (sp_has_form K) := by
  refine Hk.mkG T.g__has_form T.f_has_form (fun _ _ _ _ _ _ us hl => match us, hl with | [_], _ => rfl) sc_has_form (fun vs H Q E h => ?_) (fun cdv A outer s H vs Q E hr h => ?_)
  · obtain ⟨c, ce, rfl, _⟩ := h
    rfl
  · obtain ⟨c, ce, rfl, hc, q⟩ := h
    have hT := T.tb_PARTS
    refine ⟨_, (pss_cons (ps_if (PW.pt (pw_or (pt_not (pt_val (pe_callB call_isi (by rfl) T.z_isinstance (by decide +kernel) (pa_cons (pv 0) (pa_cons (pe_bltn (v := .ty "tuple") (by rfl) T.z_tuple (by decide +kernel) rfl) pa_nil))))) (pw_or1 (pt_cmpR op_eq (pe_callB call_len_seq (by rfl) T.z_len (by decide +kernel) (pa_cons (pv 0) pa_nil)) pe_int (nomark _)))))
        (pss_one (ps_ret pe_bl))
        pss_nil)
      (pss_cons (ps_set (i := 1) sc_has_form.nd rfl (.inl rfl) (pe_ix ix_tup (pv 0) pe_int (fun _ _ => rfl)))
      (pss_one (ps_ret (pe_and (pe_cmpR (op_in_kd (T.tb_PARTS).d.choose_spec.choose_spec) (pv 1) (pe_glob (v := .ref (ga K "PARTS")) (by rfl) T.g_PARTS rfl) rfl) (pe_one (pe_cmpR op_eq (pe_callB call_len_seq (by rfl) T.z_len (by decide +kernel) (pa_cons (pv 0) pa_nil)) (pe_op op_add pe_int (pe_callB call_len_seq (by rfl) T.z_len (by decide +kernel) (pa_cons (pe_ix ix_kdict (pe_glob (v := .ref (ga K "PARTS")) (by rfl) T.g_PARTS rfl) (pv 1) (fun _ _ => rfl)) pa_nil))) (nomark _)))))))), ?_⟩
    cases hf : ce.fine with
    | true =>
      obtain ⟨a, t, w', vs, ks, bs, rfl, F⟩ := form T 1 true hc hf
      have h1 := F.sq
      have h2 := F.key
      have h3 := F.kt H
      have h4 := F.lk
      have h5 := F.lo
      have tt := Hk.ty_SqT h1
      have k8 : PySem.W.kitOne K (.type "tuple") (.type "tuple") = some true := kit_ty (by decide +kernel)
      have a0 : atI (V.str w' :: vs) 0 = some (V.str w') := show atI (V.str w' :: vs) ((0 : Nat) : Int) = _ from atI_nat rfl
      obtain ⟨es, n, hd⟩ := hT.d
      have kd : KDct K w (ga K "PARTS") w' (.ref t) := ⟨es, n, .ref t, hd.at_, hd.lit, h2, rfl⟩
      have l2 : decide (V.int (((V.str w' :: vs).length : Nat) : Int) = V.int (1 + (ks.length : Int))) = true := decide_eq_true (congrArg V.int (by rw [List.length_cons, h4]; omega))
      rw [hf] at q
      k_subL
      rw [l2]
      exact q
    | false =>
      cases ce with
      | bad =>
        obtain ⟨a, xs, rfl, h1, hb⟩ := hc
        have tt := Hk.ty_SqT h1
        have k8 : PySem.W.kitOne K (.type "tuple") (.type "tuple") = some true := kit_ty (by decide +kernel)
        have q2 : Q (.bl false) H := q
        rcases hb with rfl | ⟨z, vs, rfl, h5, hb⟩
        · k_subL
          exact q2
        · have a0 : atI (V.str z :: vs) 0 = some (V.str z) := show atI (V.str z :: vs) ((0 : Nat) : Int) = _ from atI_nat rfl
          rcases hb with hb | ⟨n, hb, hn⟩
          · have hz : PySem.W.nsIn K (ga K "PARTS") z = some none := hT.no z fun hm => by
              simp only [List.mem_cons, List.not_mem_nil, or_false] at hm
              rcases hm with rfl | rfl | rfl | rfl | rfl | rfl | rfl | rfl
              · exact hb 0 (by decide +kernel)
              · exact hb 2 (by decide +kernel)
              · exact hb 2 (by decide +kernel)
              · exact hb 1 (by decide +kernel)
              · exact hb 3 (by decide +kernel)
              · exact hb 1 (by decide +kernel)
              · exact hb 2 (by decide +kernel)
              · exact hb 2 (by decide +kernel)
            k_subL
            exact q2
          · obtain ⟨t, ks, h2, h3, h4⟩ := T.key_of hb
            have h3 := h3 H
            obtain ⟨es, m, hd⟩ := hT.d
            have kd : KDct K w (ga K "PARTS") z (.ref t) := ⟨es, m, .ref t, hd.at_, hd.lit, h2, rfl⟩
            have l2 : decide (V.int (((V.str z :: vs).length : Nat) : Int) = V.int (1 + (ks.length : Int))) = false := decide_eq_false fun e => hn (by
              have := V.int.inj e
              rw [List.length_cons, h4] at this
              omega)
            k_subL
            rw [l2]
            exact q2
      | _ => cases hf
end
end K02


end
section
set_option Elab.async false
set_option linter.all false
set_option maxRecDepth 100000
set_option maxHeartbeats 4000000
/-! ### readings by themselves -/
open PySem PySem.Spec PyProof.Rows L2 in
local macro_rules | `(tactic| k_allIn) => `(tactic| first | (with_reducible assumption) | exact upd_same | (refine Hk.same_upd (by assumption) _ _ ?_; k_allIn) | (refine (upd_ne (by first | assumption | exact Ne.symm (by assumption))).trans ?_; k_allIn))
open PySem PySem.Spec PyProof.Rows L2 in
local macro_rules | `(tactic| k_memK) => `(tactic| first | (with_reducible exact rfl) | (with_reducible assumption) | exact rfl | exact Hk.lk_hd | k_allIn | exact Or.inl (Or.inl (by k_allIn)) | exact ⟨_, rfl⟩ | exact Or.inl ⟨rfl, _, by assumption⟩ | exact Or.inl ⟨rfl, _, Or.inl (Or.inl (by k_allIn))⟩ | exact (fun _ h => h) | exact ClsV.own _ | exact ClsV.ty _ | exact Or.inl ‹_› | exact Or.inr ‹_› | lcg_src | exact Or.inl ⟨by omega, by omega⟩ | exact Or.inr ⟨by omega, by omega⟩ | exact ⟨by omega, by omega⟩ | exact Nat.le_of_lt (small1000 (by simp)) | exact small1000 (by simp) | exact Nat.le_of_lt (small1000 (by omega)) | exact small1000 (by omega) | omega | assumption | decide +kernel)
local macro_rules | `(tactic| lcg_sub) => `(tactic| (refine And.intro ?_ ?_; k_memK))
local macro_rules | `(tactic| k_subL) => `(tactic| (repeat (first | (apply Exists.intro) | lcg_sub | (refine Or.inl ⟨_, rfl, ?_⟩) | (refine Or.inr ⟨_, rfl, ?_⟩))))
namespace K02
open PySem PySem.Spec PyProof.Rows L2
open He (ga ma ba)
open RZ
local macro_rules | `(tactic| lcg_src) => `(tactic| first | (refine CeAt.mono (by assumption) ?_; with_reducible assumption))
def sp_check (K : PySem.W.Frag) (n : Nat) : Sp := fun vs H Q E => ∃ c ce lv q, vs = [c, .int lv, .bl q] ∧ CeAt K H ce c ∧ 0 ≤ lv ∧ lv < (n : Int) ∧ (ck lv q ce = true → ∀ H', Same H H' → Q .non H') ∧ (ck lv q ce = false → ∀ H', Same H H' → E (.ref (ga K "InvalidCondition")) none H')
theorem tforz {K : PySem.W.Frag} {wi : TI} {g : TG} {tb : TS} {D : Ends} {σ : L2.St} {H : Hp} {a : Addr} {xs ys : List V} (hl : xs.length = ys.length) (S : Addr → Hp → Prop) (hw : ∀ R : It → Hp → Prop, (∀ b H1, S b H1 → R (ItzT K a b) H1) → wi σ H R) (Pv : Addr → Nat → L2.St → Hp → Prop) (h0 : ∀ b H1, S b H1 → Pv b 0 σ H1) (hq : ∀ b i σ H, Pv b i σ H → SqT K H a xs ∧ SqT K H b ys)
    (hs : ∀ b (i : Nat) (x y : V) (t : Addr) (σ : L2.St) (H : Hp) (nx : L2.St → Hp → Prop), xs[i]? = some x → ys[i]? = some y → Pv b i σ H → H t = none → (∀ σ' H', Pv b (i + 1) σ' H' → nx σ' H') → g (.ref t) σ (upd H t (.tup [x, y])) fun σ2 H2 => tb { D with nx := nx, ct := nx, bk := D.nx } σ2 H2) (hd : ∀ b σ H, Pv b xs.length σ H → D.nx σ H) : tFor wi g tb D σ H :=
  hw _ fun b H1 hS => for_zipT hl (Pv b) (h0 b H1 hS) (hq b) (fun i x y t σ H h1 h2 h3 h4 => hs b i x y t σ H _ h1 h2 h3 h4 fun _ _ q => q) (hd b)
theorem cut1 (x : V) (vs : List V) : cutV (x :: vs) (some 1) none = vs := by
  show ((x :: vs).drop (HT.sIx (vs.length + 1) 0 (some ((1 : Nat) : Int)))).take ((vs.length + 1) - HT.sIx (vs.length + 1) 0 (some ((1 : Nat) : Int))) = vs
  rw [HT.sIx_nat, Nat.min_eq_left (by omega)]
  simp
theorem sIx1 {x : V} {vs : List V} (e : HT.sIx (x :: vs).length 0 (some 1) = 0) : False := by
  have e1 : HT.sIx (vs.length + 1) 0 (some ((1 : Nat) : Int)) = 0 := e
  rw [HT.sIx_nat] at e1
  omega
theorem all_of {bs : List Bool} (h : ∀ (i : Nat) b, bs[i]? = some b → b = true) : bs.all id = true := List.all_eq_true.mpr fun b hb => by
  obtain ⟨i, hi⟩ := List.getElem?_of_mem hb
  exact h i b hi
theorem not_all {bs : List Bool} {i : Nat} (h : bs[i]? = some false) : bs.all id = false := by
  cases e : bs.all id with
  | false => rfl
  | true => exact absurd (List.all_eq_true.mp e false (List.mem_of_getElem? h)) (by decide)
section
variable {P : Program} {w : World} {K : PySem.W.Frag} {mg : Str → Option Value} {base : Heap}
theorem check_fn (T : Txt w K mg) (n : Nat) (G : Hk.GOkN P w K mg base (L2N.CX P w) (n+2) "check_condition" ["condition", "levels", "quotients"] 1 ["levels", "quotients"] (fun vs zs => vs ++ zs) (sp_check K n)) {fd : FuncData} (F : FunD K "check_condition" "check_condition" (defArgs s_check_condition) (defBody s_check_condition) (defScope s_check_condition) [] [("levels", V.int 10), ("quotients", V.bl true)] (ga K "check_condition") fd) : FnOk P w K mg base (L2N.CX P w) (n+3) (ga K "check_condition") fd ["condition", "levels", "quotients"] (sp_check K (n+1)) := by
  refine F.ok sc_check_condition (fun vs H Q E h => ?_) (fun cdv A outer s H vs Q E hr h => ?_)
  · obtain ⟨c, ce, lv, qq, rfl, _⟩ := h
    rfl
  · obtain ⟨c, ce, lv, qq, rfl, hc, l0, l1, q, qe⟩ := h
    have hT := T.tb_PARTS
    refine ⟨_, (pss_cons (ps_if (pt_not (pt_val (Hk.pe_g (ok_has_form T) (hr.mono (by omega)) pass0 (pa_cons (pv 0) pa_nil))))
        (pss_one (L2N.ps_raise rfl (L2N.takes_of rfl rfl rfl rfl) (L2N.pmk_own PySem.F.excBase_ValueError T.x_InvalidCondition.ex T.g_InvalidCondition T.x_InvalidCondition.kp (raises_own T.x_InvalidCondition.sb T.x_InvalidCondition.ty) rfl)))
        pss_nil)
      (pss_cons (ps_if (pt_cmpR op_lt (pv 1) pe_int (nomark _))
        (pss_one (L2N.ps_raise rfl (L2N.takes_of rfl rfl rfl rfl) (L2N.pmk_own PySem.F.excBase_ValueError T.x_InvalidCondition.ex T.g_InvalidCondition T.x_InvalidCondition.kp (raises_own T.x_InvalidCondition.sb T.x_InvalidCondition.ty) rfl)))
        pss_nil)
      (pss_cons (ps_set (i := 3) sc_check_condition.nd rfl (.inl rfl) (pe_ix ix_tup (pv 0) pe_int (fun _ _ => rfl)))
      (pss_cons (ps_if (PW.pt (pw_and (pt_cmpR op_eq (pv 3) pe_str (nomark _)) (pw_and1 (pt_not (pt_truth (pv 2) (by intro _; rfl))))))
        (pss_one (L2N.ps_raise rfl (L2N.takes_of rfl rfl rfl rfl) (L2N.pmk_own PySem.F.excBase_ValueError T.x_InvalidCondition.ex T.g_InvalidCondition T.x_InvalidCondition.kp (raises_own T.x_InvalidCondition.sb T.x_InvalidCondition.ty) rfl)))
        pss_nil)
      (pss_one (ps_for (passes_of rfl) rfl (pi_zipA (by rfl) T.z_zip (pa_cons (pe_ix ix_kdict (pe_glob (v := .ref (ga K "PARTS")) (by rfl) T.g_PARTS rfl) (pv 3) (fun _ _ => rfl)) (pa_cons (pe_slice sl_tupA (pv 0) (po_some pe_int) po_none) pa_nil))) (pg_tup rfl (pgs_cons (pg_name (i := 4) sc_check_condition.nd rfl (.inl rfl)) (pgs_cons (pg_name (i := 5) sc_check_condition.nd rfl (.inl rfl)) pgs_nil)))
        (pss_one (ps_if (pt_cmpR op_eq (pv 4) pe_str (nomark _))
          (pss_one (ps_expr (Hk.pe_gN G hr (L2N.passes_call (L2N.takes_of rfl rfl rfl rfl) (fun _ _ _ _ h => h)) (pa_cons (pv 5) pa_nil) (pk_cons (pe_op op_sub (pv 1) pe_int) (pk_cons (pv 2) pk_nil)))))
          (pss_one (ps_if (pt_cmpR op_notIn_seq (pv 5) (pe_glob (v := .ref (ga K "NUMBERS")) (by rfl) T.g_NUMBERS rfl) rfl)
            (pss_one (L2N.ps_raise rfl (L2N.takes_of rfl rfl rfl rfl) (L2N.pmk_own PySem.F.excBase_ValueError T.x_InvalidCondition.ex T.g_InvalidCondition T.x_InvalidCondition.kp (raises_own T.x_InvalidCondition.sb T.x_InvalidCondition.ty) rfl)))
            pss_nil)))))))))), ?_⟩
    k_subL
    cases hf : ce.fine with
    | false =>
      have e : ck lv qq ce = false := by cases ce <;> first | rfl | cases hf
      k_subL
      exact qe e _ (Same.refl _)
    | true =>
      obtain ⟨a, t, w', vs, ks, bs, rfl, F⟩ := form T lv qq hc hf
      have h1 := F.sq
      have h2 := F.key
      have h3 := F.kt H
      have h4 := F.lk
      have h5 := F.lo
      have hck := F.ckd
      have a0 : atI (V.str w' :: vs) 0 = some (V.str w') := show atI (V.str w' :: vs) ((0 : Nat) : Int) = _ from atI_nat rfl
      obtain ⟨es, n', hd⟩ := hT.d
      have kd : KDct K w (ga K "PARTS") w' (.ref t) := ⟨es, n', .ref t, hd.at_, hd.lit, h2, rfl⟩
      k_subL
      refine ite2 (fun e => ?_) (fun e => ?_)
      · have e' := of_decide_eq_true e
        k_subL
        refine qe ?_ _ (Same.refl _)
        rw [hck, decide_eq_false (by omega)]
        rfl
      have e' : ¬ (lv < 1) := fun z => e (decide_eq_true z)
      have hlv : decide ((1 : Int) ≤ lv) = true := decide_eq_true (by omega)
      rw [hlv, Bool.true_and] at hck
      clear e
      refine Hk.seq_rest (fun σ' H' => σ' = [some (.ref a), some (.int lv), some (.bl qq), none, none, none] ∧ H = H') (fun nx hnx => hnx _ _ ⟨rfl, rfl⟩) ?_
      rintro _ _ ⟨rfl, rfl⟩
      refine Hk.seq_rest (fun σ' H' => σ' = [some (.ref a), some (.int lv), some (.bl qq), some (.str w'), none, none] ∧ H = H') (fun nx hnx => ?_) ?_
      · k_subL
        exact hnx _ _ ⟨rfl, rfl⟩
      rintro _ _ ⟨rfl, rfl⟩
      by_cases hqq : w' = "quotient" ∧ qq = false
      · obtain ⟨hq1, rfl⟩ := hqq
        have hcf : ck lv false ce = false := by
          rw [hck, decide_eq_true hq1]
          rfl
        k_subL
        rw [show decide (V.str w' = V.str "quotient") = true from decide_eq_true (congrArg V.str hq1)]
        k_subL
        exact qe hcf _ (Same.refl _)
      refine Hk.seq_skip (fun nx hnx => ?_) ?_
      · k_subL
        by_cases hq1 : w' = "quotient"
        · rw [show decide (V.str w' = V.str "quotient") = true from decide_eq_true (congrArg V.str hq1)]
          obtain rfl : qq = true := by cases qq <;> first | rfl | exact absurd ⟨hq1, rfl⟩ hqq
          k_subL
          exact hnx
        · rw [show decide (V.str w' = V.str "quotient") = false from decide_eq_false fun z => hq1 (V.str.inj z)]
          k_subL
          exact hnx
      have hg : (!decide (w' = "quotient") || qq) = true := by
        by_cases hq1 : w' = "quotient"
        · rw [decide_eq_true hq1]
          cases qq <;> first | rfl | exact absurd ⟨hq1, rfl⟩ hqq
        · rw [decide_eq_false hq1]
          rfl
      rw [hg, Bool.true_and] at hck
      refine tforz (K := K) (a := t) (xs := ks) (ys := vs) h4 (fun b H1 => SqT K H1 b vs ∧ Same H H1) (fun R hR => ?_) (fun b i σ' H' => (∃ o4 o5, σ' = [some (.ref a), some (.int lv), some (.bl qq), some (.str w'), o4, o5]) ∧ SqT K H' b vs ∧ Same H H' ∧ ∀ j < i, ∀ x, bs[j]? = some x → x = true) (fun b H1 hS => ?_) (fun b i σ' H' hp => ?_) (fun b i x y T' σ' H' nx hx hy hp hT' hnx => ?_) (fun b σ' H' hp => ?_)
      · k_subL
        refine And.intro (fun e => (sIx1 e.1).elim) (fun _ p np => ?_)
        rw [cut1]
        have sp : Same H _ := Hk.same_upd (o := .tup vs) np
        have h3' := F.kt (upd H p (.tup vs))
        have h6 : SqT K (upd H p (.tup vs)) p vs := .inl (.inl upd_same)
        k_subL
        exact Or.inr ⟨h3', h6, hR p _ ⟨h6, sp⟩⟩
      · exact ⟨⟨none, none, rfl⟩, hS.1, hS.2, fun j hj => absurd hj (Nat.not_lt_zero j)⟩
      · exact ⟨F.kt H', hp.2.1⟩
      · obtain ⟨⟨o4, o5, rfl⟩, hb, hs, hall⟩ := hp
        have sT : Same H' _ := Hk.same_upd (o := .tup [x, y]) hT'
        have hT2 : SqT K (upd H' T' (.tup [x, y])) T' [x, y] := .inl (.inl upd_same)
        have hil : i < bs.length := by
          rw [F.lb]
          exact (List.getElem?_eq_some_iff.mp hy).1
        obtain ⟨bi, hbi⟩ : ∃ bi, bs[i]? = some bi := ⟨_, List.getElem?_eq_getElem hil⟩
        have hpart := F.part i x y bi hx hy hbi
        have hall2 : bi = true → ∀ j < i + 1, ∀ z, bs[j]? = some z → z = true := fun e j hj z hz => by
          rcases Nat.lt_succ_iff_lt_or_eq.mp hj with hj | rfl
          · exact hall j hj z hz
          · rw [hbi] at hz
            cases hz
            exact e
        have hfail : bi = false → ck lv qq ce = false := fun e => by
          rw [hck]
          subst e
          exact not_all hbi
        have sH := hs.trans sT
        rcases hpart with ⟨rfl, x', hx', hb'⟩ | ⟨rfl, o, rfl, hb'⟩
        · have hxT := (hx'.mono hs).mono sT
          have hlo : 0 ≤ lv - 1 := by omega
          have hhi : lv - 1 < (n : Int) := by omega
          k_subL
          exact And.intro (fun e H2 s2 => hnx _ _ ⟨⟨_, _, rfl⟩, SqT.mono (SqT.mono hb sT) s2, sH.trans s2, hall2 (hb'.trans e)⟩) (fun e H2 s2 => qe (hfail (hb'.trans e)) _ (sH.trans s2))
        · have hN := T.t_NUMBERS (upd H' T' (.tup [.str "number", cellV o]))
          have fo : flatV (cellV o) = true := by cases o <;> rfl
          k_subL
          rw [in_num o]
          cases en : num o with
          | true =>
            k_subL
            exact hnx _ _ ⟨⟨_, _, rfl⟩, SqT.mono hb sT, sH, hall2 (hb'.trans en)⟩
          | false =>
            k_subL
            exact qe (hfail (hb'.trans en)) _ sH
      · obtain ⟨⟨o4, o5, rfl⟩, hb, hs, hall⟩ := hp
        refine q ?_ _ hs
        rw [hck]
        refine all_of fun i x hx => hall i ?_ x hx
        rw [h4, ← F.lb]
        exact (List.getElem?_eq_some_iff.mp hx).1
def SpC (K : PySem.W.Frag) (n : Nat) : Sp := sp_check K n
theorem check_ok (T : Txt w K mg) {fd : FuncData} (F : FunD K "check_condition" "check_condition" (defArgs s_check_condition) (defBody s_check_condition) (defScope s_check_condition) [] [("levels", V.int 10), ("quotients", V.bl true)] (ga K "check_condition") fd) :
    ∀ n, FnOk P w K mg base (L2N.CX P w) (n+2) (ga K "check_condition") fd ["condition", "levels", "quotients"] (sp_check K n)
  | 0 => ⟨fun vs H Q E h => by
      obtain ⟨c, ce, lv, qq, _, _, l0, l1, _⟩ := h
      omega, fun A outer s H args us vs Q E _ _ _ _ h => by
      obtain ⟨c, ce, lv, qq, _, _, l0, l1, _⟩ := h
      omega⟩
  | n + 1 => by
    obtain ⟨mv, hk⟩ := FunD.kbinds0 (ps := ["condition", "levels", "quotients"]) F 1 ["levels", "quotients"] [] (fun us _ ws => us ++ ws) (by decide) (fun q h => by simp at h) (fun r1 _ r3 => r1.append r3) (fun D doc pm an cdv ct us mv ws l1 l2 l3 => by
      match us, mv, ws, l1, l2, l3 with
      | [_], [], [_, _], _, _, _ => rfl)
    exact check_fn T n ⟨T.g_check_condition, fd, _, F.kp, hk, check_ok T F n⟩ F
theorem ok_check_condition_Nlevels_quotients (T : Txt w K mg) (n : Nat) : Hk.GOkN P w K mg base (L2N.CX P w) (n+2) "check_condition" ["condition", "levels", "quotients"] 1 ["levels", "quotients"] (fun vs zs => vs ++ zs) (sp_check K n) := by
  obtain ⟨fd, F⟩ := T.f_check_condition
  obtain ⟨mv, hk⟩ := FunD.kbinds0 (ps := ["condition", "levels", "quotients"]) F 1 ["levels", "quotients"] [] (fun us _ ws => us ++ ws) (by decide) (fun q h => by simp at h) (fun r1 _ r3 => r1.append r3) (fun D doc pm an cdv ct us mv ws l1 l2 l3 => by
    match us, mv, ws, l1, l2, l3 with
    | [_], [], [_, _], _, _, _ => rfl)
  exact ⟨T.g_check_condition, fd, _, F.kp, hk, check_ok T F n⟩
theorem ok_check_condition_Nlevels (T : Txt w K mg) (n : Nat) : Hk.GOkN P w K mg base (L2N.CX P w) (n+2) "check_condition" ["condition", "levels", "quotients"] 1 ["levels"] (fun vs zs => vs ++ (zs ++ [V.bl true])) (sp_check K n) := by
  obtain ⟨fd, F⟩ := T.f_check_condition
  obtain ⟨mv, hk⟩ := FunD.kbinds0 (ps := ["condition", "levels", "quotients"]) F 1 ["levels"] [("quotients", V.bl true)] (fun us ms ws => us ++ (ws ++ ms)) (by decide) (fun q h => by rcases List.mem_singleton.mp h with rfl; simp) (fun r1 r2 r3 => r1.append (r3.append r2)) (fun D doc pm an cdv ct us mv ws l1 l2 l3 => by
    match us, mv, ws, l1, l2, l3 with
    | [_], [_], [_], _, _, _ => exact ⟨_, _, _, _, _, _, rfl, rfl, rfl⟩)
  exact ⟨T.g_check_condition, fd, _, F.kp, hk, check_ok T F n⟩
theorem ok_check_condition_Nquotients (T : Txt w K mg) (n : Nat) : Hk.GOkN P w K mg base (L2N.CX P w) (n+2) "check_condition" ["condition", "levels", "quotients"] 1 ["quotients"] (fun vs zs => vs ++ ([V.int 10] ++ zs)) (sp_check K n) := by
  obtain ⟨fd, F⟩ := T.f_check_condition
  obtain ⟨mv, hk⟩ := FunD.kbinds0 (ps := ["condition", "levels", "quotients"]) F 1 ["quotients"] [("levels", V.int 10)] (fun us ms ws => us ++ (ms ++ ws)) (by decide) (fun q h => by rcases List.mem_singleton.mp h with rfl; simp) (fun r1 r2 r3 => r1.append (r2.append r3)) (fun D doc pm an cdv ct us mv ws l1 l2 l3 => by
    match us, mv, ws, l1, l2, l3 with
    | [_], [_], [_], _, _, _ => exact ⟨_, _, _, _, _, _, rfl, rfl, rfl⟩)
  exact ⟨T.g_check_condition, fd, _, F.kp, hk, check_ok T F n⟩
theorem ok_check_condition_N (T : Txt w K mg) (n : Nat) : Hk.GOkN P w K mg base (L2N.CX P w) (n+2) "check_condition" ["condition", "levels", "quotients"] 1 [] (fun vs zs => vs ++ ([V.int 10, V.bl true] ++ zs)) (sp_check K n) := by
  obtain ⟨fd, F⟩ := T.f_check_condition
  obtain ⟨mv, hk⟩ := FunD.kbinds0 (ps := ["condition", "levels", "quotients"]) F 1 [] [("levels", V.int 10), ("quotients", V.bl true)] (fun us ms ws => us ++ (ms ++ ws)) (by decide) (fun q h => h) (fun r1 r2 r3 => r1.append (r2.append r3)) (fun D doc pm an cdv ct us mv ws l1 l2 l3 => by
    match us, mv, ws, l1, l2, l3 with
    | [_], [_, _], [], _, _, _ => exact ⟨_, _, _, _, _, _, rfl, rfl, _, _, _, _, _, _, rfl, rfl, rfl⟩)
  exact ⟨T.g_check_condition, fd, _, F.kp, hk, check_ok T F n⟩
end
end K02


end
section
set_option Elab.async false
set_option linter.all false
set_option maxRecDepth 100000
set_option maxHeartbeats 4000000
/-! ### readings by themselves -/
open PySem PySem.Spec PyProof.Rows L2 in
local macro_rules | `(tactic| k_allIn) => `(tactic| first | (with_reducible assumption) | exact upd_same | (refine Hk.same_upd (by assumption) _ _ ?_; k_allIn) | (refine (upd_ne (by first | assumption | exact Ne.symm (by assumption))).trans ?_; k_allIn))
open PySem PySem.Spec PyProof.Rows L2 in
local macro_rules | `(tactic| k_memK) => `(tactic| first | (with_reducible exact rfl) | (with_reducible assumption) | exact rfl | exact Hk.lk_hd | k_allIn | exact Or.inl (Or.inl (by k_allIn)) | exact ⟨_, rfl⟩ | exact Or.inl ⟨rfl, _, by assumption⟩ | exact Or.inl ⟨rfl, _, Or.inl (Or.inl (by k_allIn))⟩ | exact (fun _ h => h) | exact ClsV.own _ | exact ClsV.ty _ | exact Or.inl ‹_› | exact Or.inr ‹_› | lcg_src | exact Or.inl ⟨by omega, by omega⟩ | exact Or.inr ⟨by omega, by omega⟩ | exact ⟨by omega, by omega⟩ | exact Nat.le_of_lt (small1000 (by simp)) | exact small1000 (by simp) | exact Nat.le_of_lt (small1000 (by omega)) | exact small1000 (by omega) | omega | assumption | decide +kernel)
local macro_rules | `(tactic| lcg_sub) => `(tactic| (refine And.intro ?_ ?_; k_memK))
local macro_rules | `(tactic| k_subL) => `(tactic| (repeat (first | (apply Exists.intro) | lcg_sub | (refine Or.inl ⟨_, rfl, ?_⟩) | (refine Or.inr ⟨_, rfl, ?_⟩))))
namespace K02
open PySem PySem.Spec PyProof.Rows L2
open He (ga ma ba)
local macro_rules | `(tactic| lcg_src) => `(tactic| first | (refine CeAt.mono (by assumption) ?_; with_reducible assumption))
theorem tfor_anyT {K : PySem.W.Frag} {wi : TI} {g : TG} {tb : TS} {D : Ends} {σ : L2.St} {H : Hp} {xs : List V} (S : Addr → Hp → Prop) (hw : ∀ R : It → Hp → Prop, (∀ p H1, S p H1 → R (Itt K p) H1) → wi σ H R) (Pv : Addr → Nat → L2.St → Hp → Prop) (h0 : ∀ p H1, S p H1 → Pv p 0 σ H1)
    (hl : ∀ p i σ H, Pv p i σ H → SqT K H p xs) (hs : ∀ p (i : Nat) x σ H (nx : L2.St → Hp → Prop), xs[i]? = some x → Pv p i σ H → (∀ σ' H', Pv p (i + 1) σ' H' → nx σ' H') → g x σ H fun σ2 H2 => tb { D with nx := nx, ct := nx, bk := D.nx } σ2 H2)
    (hd : ∀ p σ H, Pv p xs.length σ H → D.nx σ H) : tFor wi g tb D σ H :=
  hw _ fun p H1 hS => for_tup (Pv p) (h0 p H1 hS) (fun i σ H _ h => hl p i σ H h) (fun i x σ H hi hp => hs p i x σ H _ hi hp fun _ _ q => q) (hd p)
def sizes : List (Key × V) := [(.inr "always", .int 1), (.inr "equal", .int 3), (.inr "below", .int 3), (.inr "unknown", .int 2), (.inr "quotient", .int 4), (.inr "not", .int 2), (.inr "and", .int 3), (.inr "or", .int 3)]
theorem sz_of {z : Str} {n : Nat} (h : (z, n) ∈ ars) : valV sizes (.inr z) = some (.int ((n : Int) + 1)) := by
  unfold ars at h
  simp only [List.mem_cons, List.not_mem_nil, or_false, Prod.mk.injEq] at h
  rcases h with ⟨rfl, rfl⟩ | ⟨rfl, rfl⟩ | ⟨rfl, rfl⟩ | ⟨rfl, rfl⟩ | ⟨rfl, rfl⟩ | ⟨rfl, rfl⟩ | ⟨rfl, rfl⟩ | ⟨rfl, rfl⟩ <;> decide +kernel
theorem sz_no {z : Str} (h : ∀ n, (z, n) ∉ ars) : valV sizes (.inr z) = none := by
  have e : ∀ (k : Str) n, (k, n) ∈ ars → ¬ ((.inr k : Key) = .inr z) := fun k n hk y => h n (by rw [← Sum.inr.inj y]; exact hk)
  unfold sizes
  rw [valV_neg (e "always" 0 (by decide +kernel)), valV_neg (e "equal" 2 (by decide +kernel)), valV_neg (e "below" 2 (by decide +kernel)), valV_neg (e "unknown" 1 (by decide +kernel)), valV_neg (e "quotient" 3 (by decide +kernel)), valV_neg (e "not" 1 (by decide +kernel)), valV_neg (e "and" 2 (by decide +kernel)), valV_neg (e "or" 2 (by decide +kernel))]
  rfl
theorem ck_low {lv : Int} {q : Bool} {c : Ce} (h : lv < 1) : ck lv q c = false := by
  have e : decide ((1 : Int) ≤ lv) = false := decide_eq_false (by omega)
  cases c <;> first | rfl | (show (decide ((1 : Int) ≤ lv) && _) = false; rw [e]; rfl) | exact e
theorem con_in {w' : Str} : inV (.str w') [V.str "not", V.str "and", V.str "or"] = decide (w' = "not" ∨ w' = "and" ∨ w' = "or") := by
  unfold inV
  simp only [List.any_cons, List.any_nil, Bool.or_false]
  show (decide (("not" : Str) = w') || (decide (("and" : Str) = w') || decide (("or" : Str) = w'))) = _
  by_cases h1 : w' = "not"
  · subst h1
    simp
  · by_cases h2 : w' = "and"
    · subst h2
      simp
    · by_cases h3 : w' = "or"
      · subst h3
        simp
      · simp [h1, h2, h3, Ne.symm h1, Ne.symm h2, Ne.symm h3]
def sp_fits (K : PySem.W.Frag) (n : Nat) : Sp := fun vs H Q _ => ∃ c ce lv q, vs = [c, .int lv, .bl q] ∧ CeAt K H ce c ∧ 0 ≤ lv ∧ lv < (n : Int) ∧ ∀ H', Same H H' → Q (.bl (ck lv q ce)) H'
section
variable {P : Program} {w : World} {K : PySem.W.Frag} {mg : Str → Option Value} {base : Heap}
theorem fits_step (T : Txt w K mg) (n : Nat) (G : Hk.GOk P w K mg base CX0 n "_law_fits" ["_law_condition_here", "_law_deep", "_law_errs"] (sp_fits K n)) : Hk.GOk P w K mg base CX0 (n+1) "_law_fits" ["_law_condition_here", "_law_deep", "_law_errs"] (sp_fits K (n+1)) := by
  refine Hk.mkG T.g__law_fits T.f_fits (fun _ _ _ _ _ _ us hl => match us, hl with | [_, _, _], _ => rfl) sc_fits (fun vs H Q E h => ?_) (fun cdv A outer s H vs Q E hr h => ?_)
  · obtain ⟨c, ce, lv, qq, rfl, _⟩ := h
    rfl
  · obtain ⟨c, ce, lv, qq, rfl, hc, l0, l1, q⟩ := h
    refine ⟨_, (pss_cons (ps_set (i := 3) sc_fits.nd rfl (.inl rfl) (pe_disp (pps_cons pe_str pe_int (pps_cons pe_str pe_int (pps_cons pe_str pe_int (pps_cons pe_str pe_int (pps_cons pe_str pe_int (pps_cons pe_str pe_int (pps_cons pe_str pe_int (pps_cons pe_str pe_int pps_nil)))))))) rfl rfl (by decide) (by decide)))
      (pss_cons (ps_if (PW.pt (pw_or (pt_cmpR op_lt (pv 1) pe_int (nomark _)) (pw_or1 (pt_cmpR op_eq (pe_callB call_len_seq (by rfl) T.z_len (by decide +kernel) (pa_cons (pv 0) pa_nil)) pe_int (nomark _)))))
        (pss_one (ps_ret pe_bl))
        pss_nil)
      (pss_cons (ps_set (i := 4) sc_fits.nd rfl (.inl rfl) (pe_ix ix_tup (pv 0) pe_int (fun _ _ => rfl)))
      (pss_cons (ps_if (PW.pt (pw_or (pt_cmp (pc_dnotin (hu_of hr) (pv 4) (pv 3))) (pw_or (pt_cmpR op_ne (pe_callB call_len_seq (by rfl) T.z_len (by decide +kernel) (pa_cons (pv 0) pa_nil)) (pe_dget (hu_of hr) (pv 3) (pv 4) (fun _ _ => rfl)) (nomark _)) (pw_or1 (PW.pt (pw_and (pt_cmpR op_eq (pv 4) pe_str (nomark _)) (pw_and1 (pt_not (pt_truth (pv 2) (by intro _; rfl))))))))))
        (pss_one (ps_ret pe_bl))
        pss_nil)
      (pss_cons (ps_for PassesOwn.never rfl (pi_tup (pe_slice sl_tupA (pv 0) (po_some pe_int) po_none)) (pg_name (i := 5) sc_fits.nd rfl (.inl rfl))
        (pss_one (ps_if (pt_cmpR op_in_seq (pv 4) (pe_lst (pa_cons pe_str (pa_cons pe_str (pa_cons pe_str pa_nil)))) rfl)
          (pss_one (ps_if (pt_not (pt_val (Hk.pe_g G hr pass0 (pa_cons (pv 5) (pa_cons (pe_op op_sub (pv 1) pe_int) (pa_cons (pv 2) pa_nil))))))
            (pss_one (ps_ret pe_bl))
            pss_nil))
          (pss_one (ps_if (pt_cmpR op_notIn_seq (pv 5) (pe_lst (pa_cons pe_int (pa_cons pe_int (pa_cons pe_int pa_nil)))) rfl)
            (pss_one (ps_ret pe_bl))
            pss_nil)))))
      (pss_one (ps_ret pe_bl))))))), ?_⟩
    k_subL
    intro p np
    k_subL
    refine And.intro (show _ = sizes.map (fun kv => (kV kv.1, kv.2)) from rfl) ?_
    refine And.intro (by decide) ?_
    rw [show mergeK [] sizes = sizes from rfl]
    generalize hH1 : upd (upd H p (.dK [])) p (.dK sizes) = H1
    have sp : Same H H1 := by
      rw [← hH1]
      intro b o e
      rw [upd_ne (ne_of_none e np), upd_ne (ne_of_none e np)]
      exact e
    have hp1 : H1 p = some (.dK sizes) := by
      rw [← hH1]
      exact upd_same
    have hc1 := hc.mono sp
    dsimp only [gName]
    by_cases hlv : lv < 1
    · k_subL
      rw [decide_eq_true hlv]
      k_subL
      rw [ck_low hlv] at q
      exact q _ sp
    have hlv2 : decide ((1 : Int) ≤ lv) = true := decide_eq_true (by omega)
    cases hf : ce.fine with
    | false =>
      cases ce with
      | bad =>
        obtain ⟨a, xs, rfl, h1, hb⟩ := hc1
        have q2 : ∀ H', Same H H' → Q (.bl false) H' := q
        rcases hb with rfl | ⟨z, vs, rfl, h5, hb⟩
        · k_subL
          rw [decide_eq_false hlv]
          k_subL
          exact q2 _ sp
        · have a0 : atI (V.str z :: vs) 0 = some (V.str z) := show atI (V.str z :: vs) ((0 : Nat) : Int) = _ from atI_nat rfl
          refine Hk.seq_skip (fun nx hnx => ?_) ?_
          · k_subL
            rw [decide_eq_false hlv]
            k_subL
            exact hnx
          rcases hb with hb | ⟨m, hb, hm⟩
          · have dg : DGet H1 p (.str z) none := (sz_no hb) ▸ DGet.k (k := .inr z) hp1
            k_subL
            exact q2 _ sp
          · have dg : DGet H1 p (.str z) (some (.int ((m : Int) + 1))) := (sz_of hb) ▸ DGet.k (k := .inr z) hp1
            have l2 : decide (V.int (((V.str z :: vs).length : Nat) : Int) = V.int ((m : Int) + 1)) = false := decide_eq_false fun e => hm (by
              have := V.int.inj e
              rw [List.length_cons] at this
              omega)
            k_subL
            rw [l2]
            k_subL
            exact q2 _ sp
      | _ => cases hf
    | true =>
      obtain ⟨a, t, w', vs, ks, bs, rfl, F⟩ := form T lv qq hc1 hf
      have h1 := F.sq
      have h5 := F.lo
      have hck := F.ckd
      rw [hlv2, Bool.true_and] at hck
      have a0 : atI (V.str w' :: vs) 0 = some (V.str w') := show atI (V.str w' :: vs) ((0 : Nat) : Int) = _ from atI_nat rfl
      have dg : DGet H1 p (.str w') (some (.int ((vs.length : Int) + 1))) := (sz_of F.ar) ▸ DGet.k (k := .inr w') hp1
      have l2 : decide (V.int (((V.str w' :: vs).length : Nat) : Int) = V.int ((vs.length : Int) + 1)) = true := decide_eq_true (congrArg V.int (by rw [List.length_cons]; omega))
      refine Hk.seq_skip (fun nx hnx => ?_) ?_
      · k_subL
        rw [decide_eq_false hlv]
        k_subL
        exact hnx
      refine Hk.seq_rest (fun σ' H' => σ' = [some (.ref a), some (.int lv), some (.bl qq), some (.ref p), some (.str w'), none] ∧ H1 = H') (fun nx hnx => ?_) ?_
      · k_subL
        exact hnx _ _ ⟨rfl, rfl⟩
      rintro _ _ ⟨rfl, rfl⟩
      by_cases hqq : w' = "quotient" ∧ qq = false
      · obtain ⟨hq1, rfl⟩ := hqq
        have hcf : ck lv false ce = false := by
          rw [hck, decide_eq_true hq1]
          rfl
        rw [hcf] at q
        k_subL
        rw [l2]
        k_subL
        rw [show decide (V.str w' = V.str "quotient") = true from decide_eq_true (congrArg V.str hq1)]
        k_subL
        exact q _ sp
      refine Hk.seq_skip (fun nx hnx => ?_) ?_
      · k_subL
        rw [l2]
        k_subL
        by_cases hq1 : w' = "quotient"
        · rw [show decide (V.str w' = V.str "quotient") = true from decide_eq_true (congrArg V.str hq1)]
          obtain rfl : qq = true := by cases qq <;> first | rfl | exact absurd ⟨hq1, rfl⟩ hqq
          k_subL
          exact hnx
        · rw [show decide (V.str w' = V.str "quotient") = false from decide_eq_false fun z => hq1 (V.str.inj z)]
          k_subL
          exact hnx
      have hg : (!decide (w' = "quotient") || qq) = true := by
        by_cases hq1 : w' = "quotient"
        · rw [decide_eq_true hq1]
          cases qq <;> first | rfl | exact absurd ⟨hq1, rfl⟩ hqq
        · rw [decide_eq_false hq1]
          rfl
      rw [hg, Bool.true_and] at hck
      refine Hk.seq_rest (fun σ' H' => Same H H' ∧ bs.all id = true) (fun nx0 hnx0 => ?_) ?_
      · refine tfor_anyT (K := K) (xs := vs) (fun b H2 => SqT K H2 b vs ∧ Same H1 H2) (fun R hR => ?_) (fun b i σ' H' => (∃ o5, σ' = [some (.ref a), some (.int lv), some (.bl qq), some (.ref p), some (.str w'), o5]) ∧ SqT K H' b vs ∧ Same H1 H' ∧ ∀ j < i, ∀ x, bs[j]? = some x → x = true) (fun b H2 hS => ?_) (fun b i σ' H' hp => ?_) (fun b i y σ' H' nx hy hp hnx => ?_) (fun b σ' H' hp => ?_)
        · k_subL
          refine And.intro (fun e => (sIx1 e.1).elim) (fun _ p2 np2 => ?_)
          rw [cut1]
          have s2 : Same H1 _ := Hk.same_upd (o := .tup vs) np2
          have h6 : SqT K (upd H1 p2 (.tup vs)) p2 vs := .inl (.inl upd_same)
          k_subL
          exact ⟨⟨vs, h6⟩, hR p2 _ ⟨h6, s2⟩⟩
        · exact ⟨⟨none, rfl⟩, hS.1, hS.2, fun j hj => absurd hj (Nat.not_lt_zero j)⟩
        · exact hp.2.1
        · obtain ⟨⟨o5, rfl⟩, hb, hs, hall⟩ := hp
          have hil : i < bs.length := by
            rw [F.lb]
            exact (List.getElem?_eq_some_iff.mp hy).1
          have hik : i < ks.length := by
            rw [F.lk]
            exact (List.getElem?_eq_some_iff.mp hy).1
          obtain ⟨bi, hbi⟩ : ∃ bi, bs[i]? = some bi := ⟨_, List.getElem?_eq_getElem hil⟩
          obtain ⟨kx, hkx⟩ : ∃ kx, ks[i]? = some kx := ⟨_, List.getElem?_eq_getElem hik⟩
          have hpart := F.part i kx y bi hkx hy hbi
          have hkm := List.mem_of_getElem? hkx
          have hall2 : bi = true → ∀ j < i + 1, ∀ z, bs[j]? = some z → z = true := fun e j hj z hz => by
            rcases Nat.lt_succ_iff_lt_or_eq.mp hj with hj | rfl
            · exact hall j hj z hz
            · rw [hbi] at hz
              cases hz
              exact e
          have hfail : bi = false → ck lv qq ce = false := fun e => by
            rw [hck]
            subst e
            exact not_all hbi
          k_subL
          intro p3 np3
          have s3 : Same H' _ := Hk.same_upd (o := .lst [.str "not", .str "and", .str "or"]) np3
          have h3 : SqL K (upd H' p3 (.lst [.str "not", .str "and", .str "or"])) p3 [.str "not", .str "and", .str "or"] := .inl (.inl upd_same)
          have hs3 := hs.trans s3
          have hb3 := SqT.mono hb s3
          k_subL
          rw [show (if false = true then !inV (V.str w') [V.str "not", V.str "and", V.str "or"] else inV (V.str w') [V.str "not", V.str "and", V.str "or"]) = inV (V.str w') [V.str "not", V.str "and", V.str "or"] from rfl, con_in]
          rcases hpart with ⟨rfl, x', hx', hb'⟩ | ⟨rfl, o, rfl, hb'⟩
          · have hw : w' = "not" ∨ w' = "and" ∨ w' = "or" := by
              rcases F.con with ⟨_, h⟩ | ⟨h, _⟩
              · exact h
              · exact absurd (h _ hkm) (by decide +kernel)
            rw [decide_eq_true hw]
            have hxT := (hx'.mono hs).mono s3
            have hlo : 0 ≤ lv - 1 := by omega
            have hhi : lv - 1 < (n : Int) := by omega
            k_subL
            intro H5 s5
            cases en : ck (lv - 1) qq x' with
            | true =>
              k_subL
              exact hnx _ _ ⟨⟨_, rfl⟩, SqT.mono hb3 s5, hs3.trans s5, hall2 (hb'.trans en)⟩
            | false =>
              k_subL
              rw [hfail (hb'.trans en)] at q
              exact q _ (sp.trans (hs3.trans s5))
          · have hw : ¬ (w' = "not" ∨ w' = "and" ∨ w' = "or") := by
              rcases F.con with ⟨h, _⟩ | ⟨_, h⟩
              · exact absurd (h _ hkm) (by decide +kernel)
              · exact h
            rw [decide_eq_false hw]
            have fo : flatV (cellV o) = true := by cases o <;> rfl
            k_subL
            intro p4 np4
            have s4 := Hk.same_upd (o := .lst [.int 0, .int 1, .int 2]) np4
            have h4 : SqL K (upd (upd H' p3 (.lst [.str "not", .str "and", .str "or"])) p4 (.lst [.int 0, .int 1, .int 2])) p4 [.int 0, .int 1, .int 2] := .inl (.inl upd_same)
            k_subL
            rw [in_num o]
            cases en : num o with
            | true =>
              k_subL
              exact hnx _ _ ⟨⟨_, rfl⟩, SqT.mono hb3 s4, hs3.trans s4, hall2 (hb'.trans en)⟩
            | false =>
              k_subL
              rw [hfail (hb'.trans en)] at q
              exact q _ (sp.trans (hs3.trans s4))
        · obtain ⟨⟨o5, rfl⟩, hb, hs, hall⟩ := hp
          refine hnx0 _ _ ⟨sp.trans hs, all_of fun i x hx => hall i ?_ x hx⟩
          rw [← F.lb]
          exact (List.getElem?_eq_some_iff.mp hx).1
      · rintro σ' H' ⟨hs, hall⟩
        rw [hck, hall] at q
        k_subL
        exact q _ hs
theorem ok_fits (T : Txt w K mg) : ∀ n, Hk.GOk P w K mg base CX0 n "_law_fits" ["_law_condition_here", "_law_deep", "_law_errs"] (sp_fits K n)
  | 0 => by
    obtain ⟨fd, F⟩ := T.f_fits
    refine ⟨T.g__law_fits, fd, F.kp, F.bindsN (fun _ _ _ _ _ _ us hl => match us, hl with | [_, _, _], _ => rfl), ⟨fun vs H Q E h => ?_, fun A outer s H args us vs Q E _ _ _ _ h => ?_⟩⟩
    · obtain ⟨c, ce, lv, q, _, _, l0, l1, _⟩ := h
      omega
    · obtain ⟨c, ce, lv, q, _, _, l0, l1, _⟩ := h
      omega
  | n + 1 => fits_step T n (ok_fits T n)
end
end K02


end
section
set_option Elab.async false
set_option linter.all false
set_option maxRecDepth 100000
set_option maxHeartbeats 4000000
/-! ### readings by themselves -/
open PySem PySem.Spec PyProof.Rows L2 in
local macro_rules | `(tactic| k_allIn) => `(tactic| first | (with_reducible assumption) | exact upd_same | (refine Hk.same_upd (by assumption) _ _ ?_; k_allIn) | (refine (upd_ne (by first | assumption | exact Ne.symm (by assumption))).trans ?_; k_allIn))
open PySem PySem.Spec PyProof.Rows L2 in
local macro_rules | `(tactic| k_memK) => `(tactic| first | (with_reducible exact rfl) | (with_reducible assumption) | exact rfl | exact Hk.lk_hd | k_allIn | exact Or.inl (Or.inl (by k_allIn)) | exact ⟨_, rfl⟩ | exact Or.inl ⟨rfl, _, by assumption⟩ | exact Or.inl ⟨rfl, _, Or.inl (Or.inl (by k_allIn))⟩ | exact (fun _ h => h) | exact ClsV.own _ | exact ClsV.ty _ | exact Or.inl ‹_› | exact Or.inr ‹_› | lcg_src | exact Or.inl ⟨by omega, by omega⟩ | exact Or.inr ⟨by omega, by omega⟩ | exact ⟨by omega, by omega⟩ | exact Nat.le_of_lt (small1000 (by simp)) | exact small1000 (by simp) | exact Nat.le_of_lt (small1000 (by omega)) | exact small1000 (by omega) | omega | assumption | decide +kernel)
local macro_rules | `(tactic| lcg_sub) => `(tactic| (refine And.intro ?_ ?_; k_memK))
local macro_rules | `(tactic| k_subL) => `(tactic| (repeat (first | (apply Exists.intro) | lcg_sub | (refine Or.inl ⟨_, rfl, ?_⟩) | (refine Or.inr ⟨_, rfl, ?_⟩))))
namespace K02
open PySem PySem.Spec PyProof.Rows L2
open He (ga ma ba)
local macro_rules | `(tactic| lcg_src) => `(tactic| first | (refine CeAt.mono (by assumption) ?_; with_reducible assumption))
def sp_checked (K : PySem.W.Frag) : Sp := fun vs H Q _ => ∃ c ce lv q, vs = [c, .int lv, .bl q] ∧ CeAt K H ce c ∧ 0 ≤ lv ∧ lv ≤ 10 ∧ ∀ H', Same H H' → Q (.bl true) H'
section
variable {P : Program} {w : World} {K : PySem.W.Frag} {mg : Str → Option Value} {base : Heap}
theorem ok_checked (T : Txt w K mg) : Hk.GOk P w K mg base CX0 14 "_law_checked" ["_law_condition_here", "_law_deep", "_law_errs"] (sp_checked K) := by
  refine Hk.mkG T.g__law_checked T.f_checked (fun _ _ _ _ _ _ us hl => match us, hl with | [_, _, _], _ => rfl) sc_checked (fun vs H Q E h => ?_) (fun cdv A outer s H vs Q E hr h => ?_)
  · obtain ⟨c, ce, lv, qq, rfl, _⟩ := h
    rfl
  · obtain ⟨c, ce, lv, qq, rfl, hc, l0, l1, q⟩ := h
    have e0 := T.k_InvalidCondition_BookError
    have e1 := T.ec_InvalidCondition
    have e2 := T.kt_InvalidCondition_InvalidCondition
    have e3 := T.kt_InvalidCondition_Refusal
    have evv : ∀ (x : Str) (u : Value), L2.RelV (.ref (ga K x)) u → u = .ref (ga K x) := fun _ _ h => h
    have l2 : lv < ((11 : Nat) : Int) := by omega
    refine ⟨_, (pss_cons (ps_set (i := 3) sc_checked.nd rfl (.inl rfl) (Hk.pe_g (ok_fits T 11) (hr.mono (by decide : 11 ≤ 13)) pass0 (pa_cons (pv 0) (pa_cons (pv 1) (pa_cons (pv 2) pa_nil)))))
      (pss_cons (L2N.ps_try_as (i := 5) rfl rfl sc_checked.nd rfl rfl ⟨rfl, by decide, .inl T.g_BookError⟩ Hk.takesN0 (fun W pn xe tk _ => by exact
        (pss_one (ps_set (i := 4) sc_checked.nd rfl (.inl rfl) (Hk.pe_gNS (ok_check_condition_Nlevels_quotients T 11) (hr.mono (by decide : 13 ≤ 13)) (fun σ => L2N.passAt tk σ) (pa_cons (pv 0) pa_nil) (pk_cons (pv 1) (pk_cons (pv 2) pk_nil)))))) (fun a oe cls d pn hz hf => by exact
        (pss_one (ps_ret (pe_and (pe_not (pv 3)) (pe_and (pe_callB (Hk.call_isEx hz.zc hf) (by rfl) T.z_isinstance (by decide +kernel) (pa_cons (pv 5) (pa_cons (pe_glob (v := .ref (ga K "InvalidCondition")) (by rfl) T.g_InvalidCondition rfl) pa_nil))) (pe_one (pe_not (pe_callB (Hk.call_isEx hz.zc hf) (by rfl) T.z_isinstance (by decide +kernel) (pa_cons (pv 5) (pa_cons (pe_glob (v := .ref (ga K "Refusal")) (by rfl) T.g_Refusal rfl) pa_nil)))))))))))
      (pss_one (ps_ret (pe_and (pv 3) (pe_one (pe_cmpR op_isN (pv 4) pe_non (nomark _)))))))), ?_⟩
    k_subL
    intro H1 s1
    have hc1 := hc.mono s1
    cases e : ck lv qq ce with
    | true =>
      k_subL
      refine And.intro (fun _ H2 s2 => ?_) (fun z => absurd (e.symm.trans z) (by decide))
      k_subL
      exact q _ (s1.trans s2)
    | false =>
      k_subL
      refine And.intro (fun z => absurd (e.symm.trans z) (by decide)) (fun _ H2 s2 => ⟨true, e0, fun _ a na => ?_, nofun⟩)
      k_subL
      exact q _ (s1.trans s2)
def sp_by_default (K : PySem.W.Frag) : Sp := fun vs H Q _ => ∃ c ce lv m, vs = [c, .int lv, .int m] ∧ CeAt K H ce c ∧ 0 ≤ lv ∧ lv ≤ 10 ∧ 0 ≤ m ∧ m < 3 ∧ ∀ H', Same H H' → Q (.bl true) H'
theorem ok_by_default (T : Txt w K mg) : Hk.GOk P w K mg base CX0 14 "_law_by_default" ["_law_condition_here", "_law_deep", "_law_way"] (sp_by_default K) := by
  refine Hk.mkG T.g__law_by_default T.f_by_default (fun _ _ _ _ _ _ us hl => match us, hl with | [_, _, _], _ => rfl) sc_by_default (fun vs H Q E h => ?_) (fun cdv A outer s H vs Q E hr h => ?_)
  · obtain ⟨c, ce, lv, m, rfl, _⟩ := h
    rfl
  · obtain ⟨c, ce, lv, m, rfl, hc, l0, l1, m0, m1, q⟩ := h
    have e0 := T.k_InvalidCondition_BookError
    have e1 := T.ec_InvalidCondition
    have e2 := T.kt_InvalidCondition_InvalidCondition
    have e3 := T.kt_InvalidCondition_Refusal
    have evv : ∀ (x : Str) (u : Value), L2.RelV (.ref (ga K x)) u → u = .ref (ga K x) := fun _ _ h => h
    have l2 : lv < ((11 : Nat) : Int) := by omega
    refine ⟨_, (pss_cons (ps_set (i := 3) sc_by_default.nd rfl (.inl rfl) (Hk.pe_g (ok_fits T 11) (hr.mono (by decide : 11 ≤ 13)) pass0 (pa_cons (pv 0) (pa_cons (pe_ix ix_tup (pe_tup (pa_cons pe_int (pa_cons (pv 1) (pa_cons pe_int pa_nil)))) (pv 2) (fun _ _ => rfl)) (pa_cons (pe_cmpR op_lt (pv 2) pe_int (nomark _)) pa_nil)))))
      (pss_cons (L2N.ps_try_as (i := 5) rfl rfl sc_by_default.nd rfl rfl ⟨rfl, by decide, .inl T.g_BookError⟩ Hk.takesN0 (fun W pn xe tk _ => by exact
        (pss_one (ps_if (pt_cmpR op_eq (pv 2) pe_int (nomark _))
          (pss_one (ps_set (i := 4) sc_by_default.nd rfl (.inl rfl) (Hk.pe_gNS (ok_check_condition_N T 11) (hr.mono (by decide : 13 ≤ 13)) (fun σ => L2N.passAt tk σ) (pa_cons (pv 0) pa_nil) pk_nil)))
          (pss_one (ps_if (pt_cmpR op_eq (pv 2) pe_int (nomark _))
            (pss_one (ps_set (i := 4) sc_by_default.nd rfl (.inl rfl) (Hk.pe_gNS (ok_check_condition_Nlevels T 11) (hr.mono (by decide : 13 ≤ 13)) (fun σ => L2N.passAt tk σ) (pa_cons (pv 0) pa_nil) (pk_cons (pv 1) pk_nil))))
            (pss_one (ps_set (i := 4) sc_by_default.nd rfl (.inl rfl) (Hk.pe_gNS (ok_check_condition_Nquotients T 11) (hr.mono (by decide : 13 ≤ 13)) (fun σ => L2N.passAt tk σ) (pa_cons (pv 0) pa_nil) (pk_cons pe_bl pk_nil))))))))) (fun a oe cls d pn hz hf => by exact
        (pss_one (ps_ret (pe_and (pe_not (pv 3)) (pe_and (pe_callB (Hk.call_isEx hz.zc hf) (by rfl) T.z_isinstance (by decide +kernel) (pa_cons (pv 5) (pa_cons (pe_glob (v := .ref (ga K "InvalidCondition")) (by rfl) T.g_InvalidCondition rfl) pa_nil))) (pe_one (pe_not (pe_callB (Hk.call_isEx hz.zc hf) (by rfl) T.z_isinstance (by decide +kernel) (pa_cons (pv 5) (pa_cons (pe_glob (v := .ref (ga K "Refusal")) (by rfl) T.g_Refusal rfl) pa_nil)))))))))))
      (pss_one (ps_ret (pe_and (pv 3) (pe_one (pe_cmpR op_isN (pv 4) pe_non (nomark _)))))))), ?_⟩
    obtain rfl | rfl | rfl : m = 0 ∨ m = 1 ∨ m = 2 := by omega
    · k_subL
      intro p np
      have sp : Same H _ := Hk.same_upd (o := .tup [.int 10, .int lv, .int 10]) np
      have ht : SqT K (upd H p (.tup [.int 10, .int lv, .int 10])) p [.int 10, .int lv, .int 10] := .inl (.inl upd_same)
      have hc0 := hc.mono sp
      k_subL
      intro H1 s1
      have hc1 := hc0.mono s1
      have sx := sp.trans s1
      cases e : ck 10 (decide ((0 : Int) < 2)) ce with
      | true =>
        k_subL
        refine And.intro (fun _ H2 s2 => ?_) (fun z => absurd (e.symm.trans z) (by decide))
        k_subL
        exact q _ (sx.trans s2)
      | false =>
        k_subL
        refine And.intro (fun z => absurd (e.symm.trans z) (by decide)) (fun _ H2 s2 => ⟨true, e0, fun _ a na => ?_, nofun⟩)
        k_subL
        exact q _ (sx.trans s2)
    · k_subL
      intro p np
      have sp : Same H _ := Hk.same_upd (o := .tup [.int 10, .int lv, .int 10]) np
      have ht : SqT K (upd H p (.tup [.int 10, .int lv, .int 10])) p [.int 10, .int lv, .int 10] := .inl (.inl upd_same)
      have hc0 := hc.mono sp
      k_subL
      intro H1 s1
      have hc1 := hc0.mono s1
      have sx := sp.trans s1
      cases e : ck lv (decide ((1 : Int) < 2)) ce with
      | true =>
        k_subL
        refine And.intro (fun _ H2 s2 => ?_) (fun z => absurd (e.symm.trans z) (by decide))
        k_subL
        exact q _ (sx.trans s2)
      | false =>
        k_subL
        refine And.intro (fun z => absurd (e.symm.trans z) (by decide)) (fun _ H2 s2 => ⟨true, e0, fun _ a na => ?_, nofun⟩)
        k_subL
        exact q _ (sx.trans s2)
    · k_subL
      intro p np
      have sp : Same H _ := Hk.same_upd (o := .tup [.int 10, .int lv, .int 10]) np
      have ht : SqT K (upd H p (.tup [.int 10, .int lv, .int 10])) p [.int 10, .int lv, .int 10] := .inl (.inl upd_same)
      have hc0 := hc.mono sp
      k_subL
      intro H1 s1
      have hc1 := hc0.mono s1
      have sx := sp.trans s1
      cases e : ck 10 (decide ((2 : Int) < 2)) ce with
      | true =>
        k_subL
        refine And.intro (fun _ H2 s2 => ?_) (fun z => absurd (e.symm.trans z) (by decide))
        k_subL
        exact q _ (sx.trans s2)
      | false =>
        k_subL
        refine And.intro (fun z => absurd (e.symm.trans z) (by decide)) (fun _ H2 s2 => ⟨true, e0, fun _ a na => ?_, nofun⟩)
        k_subL
        exact q _ (sx.trans s2)
end
end K02


end
section
set_option Elab.async false
set_option linter.all false
set_option maxRecDepth 100000
set_option maxHeartbeats 4000000
/-! ### readings by themselves -/
open PySem PySem.Spec PyProof.Rows L2 in
local macro_rules | `(tactic| k_allIn) => `(tactic| first | (with_reducible assumption) | exact upd_same | (refine Hk.same_upd (by assumption) _ _ ?_; k_allIn) | (refine (upd_ne (by first | assumption | exact Ne.symm (by assumption))).trans ?_; k_allIn))
open PySem PySem.Spec PyProof.Rows L2 in
local macro_rules | `(tactic| k_memK) => `(tactic| first | (with_reducible exact rfl) | (with_reducible assumption) | exact rfl | exact Hk.lk_hd | k_allIn | exact Or.inl (Or.inl (by k_allIn)) | exact ⟨_, rfl⟩ | exact Or.inl ⟨rfl, _, by assumption⟩ | exact Or.inl ⟨rfl, _, Or.inl (Or.inl (by k_allIn))⟩ | exact (fun _ h => h) | exact ClsV.own _ | exact ClsV.ty _ | exact Or.inl ‹_› | exact Or.inr ‹_› | lcg_src | exact Or.inl ⟨by omega, by omega⟩ | exact Or.inr ⟨by omega, by omega⟩ | exact ⟨by omega, by omega⟩ | exact Nat.le_of_lt (small1000 (by simp)) | exact small1000 (by simp) | exact Nat.le_of_lt (small1000 (by omega)) | exact small1000 (by omega) | omega | assumption | decide +kernel)
local macro_rules | `(tactic| lcg_sub) => `(tactic| (refine And.intro ?_ ?_; k_memK))
local macro_rules | `(tactic| k_subL) => `(tactic| (repeat (first | (apply Exists.intro) | lcg_sub | (refine Or.inl ⟨_, rfl, ?_⟩) | (refine Or.inr ⟨_, rfl, ?_⟩))))
namespace K02
open PySem PySem.Spec PyProof.Rows L2
open He (ga ma ba)
/-! ### the law's draws -/
/-- the box: the script's copy, the place, the number, the count, whether it is great -/
structure BoxIs (H : Hp) (b l : Addr) (ns : List Int) (i m c g : Int) : Prop where
  hb : H b = some (.lst [.ref l, .int i, .int m, .int c, .int g])
  hl : H l = some (.lst (ns.map V.int))
  h0 : 0 ≤ i
  hn : ns.length ≤ 63
def BoxAt (H : Hp) (b l : Addr) : Prop := ∃ ns i m c g, BoxIs H b l ns i m c g
/-- all but the thing at b is as it was -/
def SameBut (b : Addr) (H H' : Hp) : Prop := ∀ x o, H x = some o → x ≠ b → H' x = some o
theorem SameBut.refl (b : Addr) (H : Hp) : SameBut b H H := fun _ _ h _ => h
theorem SameBut.upd {b : Addr} {H : Hp} {o : HO} : SameBut b H (upd H b o) := fun x o' h n => by rw [upd_ne n]; exact h
theorem SameBut.trans {b : Addr} {H H1 H2 : Hp} (h : SameBut b H H1) (k : SameBut b H1 H2) : SameBut b H H2 := fun x o e n => k x o (h x o e n) n
theorem BoxIs.ne {H : Hp} {b l : Addr} {ns : List Int} {i m c g : Int} (B : BoxIs H b l ns i m c g) : l ≠ b := by
  intro e
  have h1 := B.hb
  have h2 := B.hl
  rw [e, h1] at h2
  injection h2 with h2
  injection h2 with h2
  cases ns with
  | nil => cases h2
  | cons x r => injection h2 with h2 _; cases h2
theorem BoxIs.set {H : Hp} {b l : Addr} {ns : List Int} {i m c g i' m' c' g' : Int} (B : BoxIs H b l ns i m c g) (h : 0 ≤ i') : BoxIs (upd H b (.lst [.ref l, .int i', .int m', .int c', .int g'])) b l ns i' m' c' g' :=
  ⟨upd_same, by rw [upd_ne B.ne]; exact B.hl, h, B.hn⟩
theorem BoxAt.ne {H : Hp} {b l p : Addr} (B : BoxAt H b l) (n : H p = none) : p ≠ b := by
  obtain ⟨ns, i, m, c, g, B⟩ := B
  exact (ne_of_none B.hb n).symm
theorem BoxAt.nel {H : Hp} {b l p : Addr} (B : BoxAt H b l) (n : H p = none) : p ≠ l := by
  obtain ⟨ns, i, m, c, g, B⟩ := B
  exact (ne_of_none B.hl n).symm
theorem BoxAt.set {H : Hp} {b l p : Addr} {o : HO} (B : BoxAt H b l) (n : p ≠ b) (k : p ≠ l) : BoxAt (upd H p o) b l := by
  obtain ⟨ns, i, m, c, g, ⟨h1, h2, h3, h4⟩⟩ := B
  exact ⟨ns, i, m, c, g, ⟨by rw [upd_ne n.symm]; exact h1, by rw [upd_ne k.symm]; exact h2, h3, h4⟩⟩
theorem BoxAt.upd {H : Hp} {b l p : Addr} {o : HO} (B : BoxAt H b l) (n : H p = none) : BoxAt (upd H p o) b l := B.set (B.ne n) (B.nel n)
theorem BoxAt.same {H H' : Hp} {b l : Addr} (B : BoxAt H b l) (s : Same H H') : BoxAt H' b l := by
  obtain ⟨ns, i, m, c, g, ⟨h1, h2, h3, h4⟩⟩ := B
  exact ⟨ns, i, m, c, g, ⟨s _ _ h1, s _ _ h2, h3, h4⟩⟩
theorem Same.but {H H' : Hp} (s : Same H H') (b : Addr) : SameBut b H H' := fun x o h _ => s x o h
def sp_box (K : PySem.W.Frag) : Sp := fun vs H Q _ => ∃ (a : Addr) (ns : List Int), vs = [.ref a] ∧ SqL K H a (ns.map V.int) ∧ ns.length ≤ 63 ∧ ∀ b l H', Same H H' → H b = none → H l = none → BoxAt H' b l → Q (.ref b) H'
def sp_draw : Sp := fun vs H Q _ => ∃ b n l, vs = [.ref b, .int n] ∧ BoxAt H b l ∧ 0 < n ∧ n < 1000000 ∧ ∀ k H', 0 ≤ k → k < n → BoxAt H' b l → SameBut b H H' → Q (.int k) H'
section
variable {P : Program} {w : World} {K : PySem.W.Frag} {mg : Str → Option Value} {base : Heap}
theorem ok_box (T : Txt w K mg) : Hk.GOk P w K mg base CX0 1 "_law_box" ["_law_script"] (sp_box K) := by
  refine Hk.mkG T.g__law_box T.f_box (fun _ _ _ _ _ _ us hl => match us, hl with | [_], _ => rfl) sc_box (fun vs H Q E h => ?_) (fun cdv A outer s H vs Q E hr h => ?_)
  · obtain ⟨a, ns, rfl, _⟩ := h
    rfl
  · obtain ⟨a, ns, rfl, hs, hn, q⟩ := h
    refine ⟨_, (pss_one (ps_ret (pe_lst (pa_cons (pe_callTy call_list_of (by rfl) T.z_list (by decide +kernel) (pa_cons (pv 0) pa_nil)) (pa_cons pe_int (pa_cons pe_int (pa_cons pe_int (pa_cons pe_int pa_nil)))))))), ?_⟩
    k_subL
    intro l nl
    refine And.intro ?_ ?_
    · refine Nat.le_of_lt (small1000 ?_)
      simp
    intro b nb
    have nlb : l ≠ b := ne_of_none upd_same nb
    refine q b l _ (fun x o e => ?_) ?_ nl ⟨ns, 0, 0, 0, 0, ⟨upd_same, ?_, by omega, hn⟩⟩
    · rw [upd_ne (ne_of_none (Hk.same_upd nl _ _ e) nb), upd_ne (ne_of_none e nl)]
      exact e
    · exact (Hk.same_upd nl).free nb
    · rw [upd_ne nlb]
      exact upd_same
/-- behind the filling: a box whose count is not 0 is drawn from -/
theorem ok_draw (T : Txt w K mg) : Hk.GOk P w K mg base CX0 1 "_law_draw" ["_law_box_here", "_law_size"] (sp_draw) := by
  refine Hk.mkG T.g__law_draw T.f_draw (fun _ _ _ _ _ _ us hl => match us, hl with | [_, _], _ => rfl) sc_draw (fun vs H Q E h => ?_) (fun cdv A outer s H vs Q E hr h => ?_)
  · obtain ⟨b, n, l, rfl, _⟩ := h
    rfl
  · obtain ⟨b, n, l, rfl, ⟨ns, i, m, c, g, B⟩, h0, h1, q⟩ := h
    have hne := B.ne
    obtain ⟨hb, hl, hi, hn⟩ := id B
    refine ⟨_, (pss_cons (ps_if (pt_cmpR op_eq (pe_ix ix_list (pv 0) pe_int (fun _ _ => rfl)) pe_int (nomark _))
        (pss_cons (ps_if (pt_cmpR op_ge (pe_ix ix_list (pv 0) pe_int (fun _ _ => rfl)) (pe_callB call_len_seq (by rfl) T.z_len (by decide +kernel) (pa_cons (pe_ix ix_list (pv 0) pe_int (fun _ _ => rfl)) pa_nil)) (nomark _))
          (pss_one (ps_ret pe_int))
          pss_nil)
        (pss_cons (ps_asg (pe_callB call_abs (by rfl) T.z_abs (by decide +kernel) (pa_cons (pe_callTy call_int1 (by rfl) T.z_int (by decide +kernel) (pa_cons (pe_ix ix_list (pe_ix ix_list (pv 0) pe_int (fun _ _ => rfl)) (pe_ix ix_list (pv 0) pe_int (fun _ _ => rfl)) (fun _ _ => rfl)) pa_nil)) pa_nil)) (pg_sub (pv 0) pe_int set_list))
        (pss_cons (ps_asg (pe_op op_add (pe_ix ix_list (pv 0) pe_int (fun _ _ => rfl)) pe_int) (pg_sub (pv 0) pe_int set_list))
        (pss_cons (ps_asg (pe_callTy call_int1 (by rfl) T.z_int (by decide +kernel) (pa_cons (pe_cmpR op_ge (pe_ix ix_list (pv 0) pe_int (fun _ _ => rfl)) (pe_op op_pow pe_int pe_int) (nomark _)) pa_nil)) (pg_sub (pv 0) pe_int set_list))
        (pss_one (ps_asg (pe_op op_add pe_int (pe_op op_mul pe_int (pe_ix ix_list (pv 0) pe_int (fun _ _ => rfl)))) (pg_sub (pv 0) pe_int set_list)))))))
        pss_nil)
      (pss_cons (ps_asg (pe_op op_sub (pe_ix ix_list (pv 0) pe_int (fun _ _ => rfl)) pe_int) (pg_sub (pv 0) pe_int set_list))
      (pss_cons (ps_if (pt_cmpR op_eq (pe_ix ix_list (pv 0) pe_int (fun _ _ => rfl)) pe_int (nomark _))
        (pss_cons (ps_set (i := 2) sc_draw.nd rfl (.inl rfl) (pe_op op_modN (pe_callTy call_int1 (by rfl) T.z_int (by decide +kernel) (pa_cons (pe_ix ix_list (pv 0) pe_int (fun _ _ => rfl)) pa_nil)) (pv 1)))
        (pss_cons (ps_asg (pe_op op_fdivN (pe_callTy call_int1 (by rfl) T.z_int (by decide +kernel) (pa_cons (pe_ix ix_list (pv 0) pe_int (fun _ _ => rfl)) pa_nil)) (pv 1)) (pg_sub (pv 0) pe_int set_list))
        (pss_cons (ps_if (pt_cmpR op_eq (pe_ix ix_list (pv 0) pe_int (fun _ _ => rfl)) pe_int (nomark _))
          (pss_one (ps_asg pe_int (pg_sub (pv 0) pe_int set_list)))
          pss_nil)
        (pss_one (ps_ret (pv 2))))))
        pss_nil)
      (pss_cons (ps_set (i := 3) sc_draw.nd rfl (.inl rfl) (pe_op op_modN (pe_callTy call_int1 (by rfl) T.z_int (by decide +kernel) (pa_cons (pe_op op_add (pe_op op_add (pe_op op_mul (pe_callTy call_int1 (by rfl) T.z_int (by decide +kernel) (pa_cons (pe_ix ix_list (pv 0) pe_int (fun _ _ => rfl)) pa_nil)) pe_int) (pe_op op_mul (pe_ix ix_list (pv 0) pe_int (fun _ _ => rfl)) pe_int)) pe_int) pa_nil)) pe_int))
      (pss_cons (ps_set (i := 3) sc_draw.nd rfl (.inl rfl) (pe_op op_modN (pe_callTy call_int1 (by rfl) T.z_int (by decide +kernel) (pa_cons (pe_op op_add (pe_op op_add (pe_op op_mul (pv 3) pe_int) (pe_op op_mul (pe_ix ix_list (pv 0) pe_int (fun _ _ => rfl)) pe_int)) pe_int) pa_nil)) pe_int))
      (pss_one (ps_ret (pe_op op_modN (pe_callTy call_int1 (by rfl) T.z_int (by decide +kernel) (pa_cons (pv 3) pa_nil)) (pv 1))))))))), ?_⟩
    refine Hk.seq_rest (fun σ' H' => σ' = [some (.ref b), some (.int n), none, none] ∧ (∃ i m c g, BoxIs H' b l ns i m c g) ∧ SameBut b H H') (fun nx hnx => ?_) ?_
    · k_subL
      rw [Hk.dI]
      refine ite2 (fun e => ?_) (fun e => ?_)
      · have el : SqL K H l (ns.map V.int) := .inl (.inl hl)
        k_subL
        refine ite2 (fun e2 => ?_) (fun e2 => ?_)
        · exact q 0 H (Int.le_refl _) h0 ⟨ns, i, m, c, g, B⟩ (SameBut.refl _ _)
        · have hlt : i < ns.length := by
            rw [decide_eq_true_eq, List.length_map] at e2
            omega
          obtain ⟨x, hx, _⟩ := Hk.atI_map (f := V.int) hi hlt
          k_subL
          refine hnx _ _ ⟨rfl, ⟨_, _, _, _, ⟨upd_same, by k_allIn, ?_, hn⟩⟩, fun x o h n => ?_⟩
          · show 0 ≤ i + 1
            omega
          · repeat rw [upd_ne n]
            exact h
      · exact hnx _ _ ⟨rfl, ⟨i, m, c, g, B⟩, SameBut.refl _ _⟩
    · clear B hb hl hi
      rintro σ' H1 ⟨rfl, ⟨i, m, c, g, B⟩, hs⟩
      obtain ⟨hb, hl, hi, hn⟩ := id B
      k_subL
      rw [Hk.dI]
      refine ite2 (fun e => ?_) (fun e => ?_)
      · k_subL
        rw [Hk.dI]
        refine ite2 (fun e2 => ?_) (fun e2 => ?_)
        · k_subL
          refine q _ _ (Hk.fmod_lo h0) (Hk.fmod_hi h0) ⟨ns, _, _, _, _, ⟨upd_same, by k_allIn, hi, hn⟩⟩ fun x o h n => ?_
          repeat rw [upd_ne n]
          exact hs _ _ h n
        · k_subL
          refine q _ _ (Hk.fmod_lo h0) (Hk.fmod_hi h0) ⟨ns, _, _, _, _, ⟨upd_same, by k_allIn, hi, hn⟩⟩ fun x o h n => ?_
          repeat rw [upd_ne n]
          exact hs _ _ h n
      · k_subL
        refine q _ _ (Hk.fmod_lo h0) (Hk.fmod_hi h0) ⟨ns, _, _, _, _, ⟨upd_same, by k_allIn, hi, hn⟩⟩ fun x o h n => ?_
        repeat rw [upd_ne n]
        exact hs _ _ h n
end
end K02


end
section
set_option Elab.async false
set_option linter.all false
set_option maxRecDepth 100000
set_option maxHeartbeats 4000000
/-! ### readings by themselves -/
open PySem PySem.Spec PyProof.Rows L2 in
local macro_rules | `(tactic| k_allIn) => `(tactic| first | (with_reducible assumption) | exact upd_same | (refine Hk.same_upd (by assumption) _ _ ?_; k_allIn) | (refine (upd_ne (by first | assumption | exact Ne.symm (by assumption))).trans ?_; k_allIn))
open PySem PySem.Spec PyProof.Rows L2 in
local macro_rules | `(tactic| k_memK) => `(tactic| first | (with_reducible exact rfl) | (with_reducible assumption) | exact rfl | exact Hk.lk_hd | k_allIn | exact Or.inl (Or.inl (by k_allIn)) | exact ⟨_, rfl⟩ | exact Or.inl ⟨rfl, _, by assumption⟩ | exact Or.inl ⟨rfl, _, Or.inl (Or.inl (by k_allIn))⟩ | exact (fun _ h => h) | exact ClsV.own _ | exact ClsV.ty _ | exact Or.inl ‹_› | exact Or.inr ‹_› | lcg_src | exact Or.inl ⟨by omega, by omega⟩ | exact Or.inr ⟨by omega, by omega⟩ | exact ⟨by omega, by omega⟩ | exact Nat.le_of_lt (small1000 (by simp)) | exact small1000 (by simp) | exact Nat.le_of_lt (small1000 (by omega)) | exact small1000 (by omega) | omega | assumption | decide +kernel)
local macro_rules | `(tactic| lcg_sub) => `(tactic| (refine And.intro ?_ ?_; k_memK))
local macro_rules | `(tactic| k_subL) => `(tactic| (repeat (first | (apply Exists.intro) | lcg_sub | (refine Or.inl ⟨_, rfl, ?_⟩) | (refine Or.inr ⟨_, rfl, ?_⟩))))
namespace K02
open PySem PySem.Spec PyProof.Rows L2
open He (ga ma ba)
theorem SqL.but {K : PySem.W.Frag} {H H' : Hp} {a b : Addr} {xs : List V} (h : SqL K H a xs) (s : SameBut b H H') (n : a ≠ b) : SqL K H' a xs := by
  rcases h with (h | ⟨o, h⟩) | h
  · exact .inl (.inl (s _ _ h n))
  · exact .inl (.inr ⟨o, s _ _ h n⟩)
  · exact .inr h
theorem SqT.but {K : PySem.W.Frag} {H H' : Hp} {a b l : Addr} {xs : List V} (h : SqT K H a xs) (B : BoxAt H b l) (s : SameBut b H H') : SqT K H' a xs := by
  obtain ⟨ns, i, m, c, g, B⟩ := B
  rcases h with (h | ⟨o, h⟩) | h
  · exact .inl (.inl (s _ _ h (ne_of h B.hb (by intro z; cases z))))
  · exact .inl (.inr ⟨o, s _ _ h (ne_of h B.hb (by intro z; cases z))⟩)
  · exact .inr h
theorem CeAt.but {K : PySem.W.Frag} {H H' : Hp} {b l : Addr} (B : BoxAt H b l) (s : SameBut b H H') : ∀ {c : Ce} {v : V}, CeAt K H c v → CeAt K H' c v
  | .eql .., _, ⟨a, e, h⟩ => ⟨a, e, SqT.but h B s⟩
  | .lss .., _, ⟨a, e, h⟩ => ⟨a, e, SqT.but h B s⟩
  | .unk .., _, ⟨a, e, h⟩ => ⟨a, e, SqT.but h B s⟩
  | .alw, _, ⟨a, e, h⟩ => ⟨a, e, SqT.but h B s⟩
  | .quo .., _, ⟨a, e, h⟩ => ⟨a, e, SqT.but h B s⟩
  | .bad, _, ⟨a, xs, e, h, b⟩ => ⟨a, xs, e, SqT.but h B s, b⟩
  | .neg _, _, ⟨a, u, e, h, k⟩ => ⟨a, u, e, SqT.but h B s, CeAt.but B s k⟩
  | .and .., _, ⟨a, u, t, e, h, k, l⟩ => ⟨a, u, t, e, SqT.but h B s, CeAt.but B s k, CeAt.but B s l⟩
  | .or .., _, ⟨a, u, t, e, h, k, l⟩ => ⟨a, u, t, e, SqT.but h B s, CeAt.but B s k, CeAt.but B s l⟩
def sp_pick (K : PySem.W.Frag) : Sp := fun vs H Q _ => ∃ b a xs l, vs = [.ref b, .ref a] ∧ BoxAt H b l ∧ SqL K H a xs ∧ a ≠ b ∧ 0 < xs.length ∧ xs.length ≤ 1000 ∧ ∀ (k : Nat) v H', xs[k]? = some v → BoxAt H' b l → SameBut b H H' → Q v H'
def sp_condition (K : PySem.W.Frag) (n : Nat) : Sp := fun vs H Q _ => ∃ b l m, vs = [.ref b, .int m, .int 1] ∧ m = (n : Int) ∧ BoxAt H b l ∧ 1 ≤ n ∧ ∀ p ce H', CeAt K H' ce p → ce.fine = true → BoxAt H' b l → SameBut b H H' → Q p H'
section
variable {P : Program} {w : World} {K : PySem.W.Frag} {mg : Str → Option Value} {base : Heap}
theorem ok_pick (T : Txt w K mg) : Hk.GOk P w K mg base CX0 2 "_law_pick" ["_law_box_here", "_law_menu"] (sp_pick K) := by
  refine Hk.mkG T.g__law_pick T.f_pick (fun _ _ _ _ _ _ us hl => match us, hl with | [_, _], _ => rfl) sc_pick (fun vs H Q E h => ?_) (fun cdv A outer s H vs Q E hr h => ?_)
  · obtain ⟨b, a, xs, l, rfl, _⟩ := h
    rfl
  · obtain ⟨b, a, xs, l, rfl, hb, hs, hne, h0, h1, q⟩ := h
    refine ⟨_, (pss_one (ps_ret (pe_ix ix_list (pv 1) (Hk.pe_g (ok_draw T) (hr.mono (by decide)) pass0 (pa_cons (pv 0) (pa_cons (pe_callB call_len_seq (by rfl) T.z_len (by decide +kernel) (pa_cons (pv 1) pa_nil)) pa_nil))) (fun _ _ => rfl)))), ?_⟩
    have hl : SqL K H a xs ∨ SqT K H a xs := .inl hs
    k_subL
    intro k H' hk0 hk1 hb' hs'
    have hs2 : SqL K H' a xs := SqL.but hs hs' hne
    obtain ⟨x, hx, hx2⟩ := Hk.atI_of hk0 hk1
    k_subL
    exact q _ _ _ hx2 hb' hs'
theorem ands {k : Nat} {v : V} (h : [V.str "and", V.str "or"][k]? = some v) : v = .str "and" ∨ v = .str "or" := by
  match k, h with
  | 0, h => cases h; exact .inl rfl
  | 1, h => cases h; exact .inr rfl
  | k + 2, h => simp at h
theorem condition_step (T : Txt w K mg) (n : Nat) (G : Hk.GOk P w K mg base CX0 (n+1) "_law_condition" ["_law_box_here", "_law_levels", "_law_errs"] (sp_condition K n)) : Hk.GOk P w K mg base CX0 (n+2) "_law_condition" ["_law_box_here", "_law_levels", "_law_errs"] (sp_condition K (n+1)) := by
  refine Hk.mkG T.g__law_condition T.f_condition (fun _ _ _ _ _ _ us hl => match us, hl with | [_, _, _], _ => rfl) sc_condition (fun vs H Q E h => ?_) (fun cdv A outer s H vs Q E hr h => ?_)
  · obtain ⟨b, l, m, rfl, _⟩ := h
    rfl
  · obtain ⟨b, l, m, rfl, hm, hb, hn, q⟩ := h
    refine ⟨_, (pss_cons (ps_set (i := 3) sc_condition.nd rfl (.inl rfl) (Hk.pe_g (ok_draw T) (hr.mono (by omega)) pass0 (pa_cons (pv 0) (pa_cons pe_int pa_nil))))
      (pss_cons (ps_if (PW.pt (pw_and (pt_cmpR op_gt (pv 1) pe_int (nomark _)) (pw_and1 (pt_cmpR op_lt (pv 3) pe_int (nomark _)))))
        (pss_cons (ps_set (i := 3) sc_condition.nd rfl (.inl rfl) (pe_ix ix_tup (pe_tup (pa_cons pe_str (pa_cons pe_str pa_nil))) (pv 3) (fun _ _ => rfl)))
        (pss_one (ps_ret (pe_tup (pa_cons (pv 3) (pa_cons (Hk.pe_g G hr pass0 (pa_cons (pv 0) (pa_cons (pe_op op_sub (pv 1) pe_int) (pa_cons (pv 2) pa_nil)))) (pa_cons (Hk.pe_g G hr pass0 (pa_cons (pv 0) (pa_cons (pe_op op_sub (pv 1) pe_int) (pa_cons (pv 2) pa_nil)))) pa_nil)))))))
        pss_nil)
      (pss_cons (ps_if (PW.pt (pw_and (pt_cmpR op_gt (pv 1) pe_int (nomark _)) (pw_and1 (pt_cmpR op_eq (pv 3) pe_int (nomark _)))))
        (pss_one (ps_ret (pe_tup (pa_cons pe_str (pa_cons (Hk.pe_g G hr pass0 (pa_cons (pv 0) (pa_cons (pe_op op_sub (pv 1) pe_int) (pa_cons (pv 2) pa_nil)))) pa_nil)))))
        pss_nil)
      (pss_cons (ps_set (i := 4) sc_condition.nd rfl (.inl rfl) (Hk.pe_g (ok_draw T) (hr.mono (by omega)) pass0 (pa_cons (pv 0) (pa_cons pe_int pa_nil))))
      (pss_cons (ps_set (i := 3) sc_condition.nd rfl (.inl rfl) (Hk.pe_g (ok_draw T) (hr.mono (by omega)) pass0 (pa_cons (pv 0) (pa_cons (pe_op op_add pe_int (pe_op op_mul pe_int (pv 2))) pa_nil))))
      (pss_cons (ps_if (pt_cmpR op_lt (pv 3) pe_int (nomark _))
        (pss_one (ps_ret (pe_tup (pa_cons pe_str (pa_cons (pv 4) (pa_cons (Hk.pe_g (ok_draw T) (hr.mono (by omega)) pass0 (pa_cons (pv 0) (pa_cons pe_int pa_nil))) pa_nil))))))
        pss_nil)
      (pss_cons (ps_if (pt_cmpR op_eq (pv 3) pe_int (nomark _))
        (pss_one (ps_ret (pe_tup (pa_cons pe_str (pa_cons (pv 4) (pa_cons (Hk.pe_g (ok_draw T) (hr.mono (by omega)) pass0 (pa_cons (pv 0) (pa_cons pe_int pa_nil))) pa_nil))))))
        pss_nil)
      (pss_cons (ps_if (pt_cmpR op_lt (pv 3) pe_int (nomark _))
        (pss_one (ps_ret (pe_tup (pa_cons pe_str (pa_cons (pv 4) pa_nil)))))
        pss_nil)
      (pss_cons (ps_if (pt_cmpR op_eq (pv 3) pe_int (nomark _))
        (pss_one (ps_ret (pe_tup (pa_cons pe_str pa_nil))))
        pss_nil)
      (pss_one (ps_ret (pe_tup (pa_cons pe_str (pa_cons (pv 4) (pa_cons (Hk.pe_g (ok_draw T) (hr.mono (by omega)) pass0 (pa_cons (pv 0) (pa_cons pe_int pa_nil))) (pa_cons (Hk.pe_g (ok_draw T) (hr.mono (by omega)) pass0 (pa_cons (pv 0) (pa_cons pe_int pa_nil))) pa_nil)))))))))))))))), ?_⟩
    k_subL
    intro k H1 k0 k1 hb1 s1
    dsimp only [gName]
    refine Hk.seq_skip (fun nx hnx => ?_) ?_
    · k_subL
      by_cases hn1 : n = 0
      · rw [show decide ((1 : Int) < m) = false from decide_eq_false (by omega)]
        k_subL
        exact hnx
      · rw [show decide ((1 : Int) < m) = true from decide_eq_true (by omega)]
        have hn2 : 1 ≤ n := by omega
        k_subL
        refine ite2 (fun e => ?_) (fun e => ?_)
        · have e' := of_decide_eq_true e
          k_subL
          intro p2 n2
          have hb2 := hb1.upd (o := .tup [.str "and", .str "or"]) n2
          have s2 := s1.trans (Same.but (Hk.same_upd (o := .tup [.str "and", .str "or"]) n2) b)
          have h2 : SqT K (upd H1 p2 (.tup [.str "and", .str "or"])) p2 [.str "and", .str "or"] := .inl (.inl upd_same)
          obtain ⟨y, hy, hy2⟩ := Hk.atI_of (xs := [V.str "and", .str "or"]) k0 e'
          have hy3 := ands hy2
          k_subL
          intro v3 c3 H3 g3 w3 hb3 s3
          k_subL
          intro v4 c4 H4 g4 w4 hb4 s4
          have g3' := CeAt.but hb3 s4 g3
          k_subL
          intro p5 n5
          have hb5 := hb4.upd (o := .tup [y, v3, v4]) n5
          have s5' : Same H4 _ := Hk.same_upd (o := .tup [y, v3, v4]) n5
          have s5 := ((s2.trans s3).trans s4).trans (Same.but s5' b)
          rcases hy3 with rfl | rfl
          · exact q _ (.and c3 c4) _ ⟨p5, v3, v4, rfl, .inl (.inl upd_same), g3'.mono s5', g4.mono s5'⟩ rfl hb5 s5
          · exact q _ (.or c3 c4) _ ⟨p5, v3, v4, rfl, .inl (.inl upd_same), g3'.mono s5', g4.mono s5'⟩ rfl hb5 s5
        · k_subL
          exact hnx
    refine Hk.seq_skip (fun nx hnx => ?_) ?_
    · k_subL
      by_cases hn1 : n = 0
      · rw [show decide ((1 : Int) < m) = false from decide_eq_false (by omega)]
        k_subL
        exact hnx
      · rw [show decide ((1 : Int) < m) = true from decide_eq_true (by omega)]
        have hn2 : 1 ≤ n := by omega
        k_subL
        refine ite2 (fun e => ?_) (fun e => ?_)
        · k_subL
          intro v3 c3 H3 g3 w3 hb3 s3
          k_subL
          intro p5 n5
          have hb5 := hb3.upd (o := .tup [.str "not", v3]) n5
          have s5' : Same H3 _ := Hk.same_upd (o := .tup [.str "not", v3]) n5
          have s5 := (s1.trans s3).trans (Same.but s5' b)
          exact q _ (.neg c3) _ ⟨p5, v3, rfl, .inl (.inl upd_same), g3.mono s5'⟩ rfl hb5 s5
        · k_subL
          exact hnx
    k_subL
    intro c H2 c0 c1 hb2 s2'
    have s2 := s1.trans s2'
    k_subL
    intro d H3 d0 d1 hb3 s3'
    have s3 := s2.trans s3'
    k_subL
    refine ite2 (fun e => ?_) (fun e => ?_)
    · k_subL
      intro x H4 x0 x1 hb4 s4
      k_subL
      intro p5 n5
      exact q _ (.eql (some c) (some x)) _ ⟨p5, rfl, .inl (.inl upd_same)⟩ rfl (hb4.upd n5) ((s3.trans s4).trans (Same.but (Hk.same_upd n5) b))
    k_subL
    refine ite2 (fun e => ?_) (fun e => ?_)
    · k_subL
      intro x H4 x0 x1 hb4 s4
      k_subL
      intro p5 n5
      exact q _ (.lss (some c) (some x)) _ ⟨p5, rfl, .inl (.inl upd_same)⟩ rfl (hb4.upd n5) ((s3.trans s4).trans (Same.but (Hk.same_upd n5) b))
    k_subL
    refine ite2 (fun e => ?_) (fun e => ?_)
    · k_subL
      intro p5 n5
      exact q _ (.unk (some c)) _ ⟨p5, rfl, .inl (.inl upd_same)⟩ rfl (hb3.upd n5) (s3.trans (Same.but (Hk.same_upd n5) b))
    k_subL
    refine ite2 (fun e => ?_) (fun e => ?_)
    · k_subL
      intro p5 n5
      exact q _ .alw _ ⟨p5, rfl, .inl (.inl upd_same)⟩ rfl (hb3.upd n5) (s3.trans (Same.but (Hk.same_upd n5) b))
    k_subL
    intro x H4 x0 x1 hb4 s4
    k_subL
    intro y H5 y0 y1 hb5 s5
    k_subL
    intro p5 n5
    exact q _ (.quo (some c) (some x) (some y)) _ ⟨p5, rfl, .inl (.inl upd_same)⟩ rfl (hb5.upd n5) (((s3.trans s4).trans s5).trans (Same.but (Hk.same_upd n5) b))
theorem ok_condition (T : Txt w K mg) : ∀ n, Hk.GOk P w K mg base CX0 (n+1) "_law_condition" ["_law_box_here", "_law_levels", "_law_errs"] (sp_condition K n)
  | 0 => by
    obtain ⟨fd, F⟩ := T.f_condition
    refine ⟨T.g__law_condition, fd, F.kp, F.bindsN (fun _ _ _ _ _ _ us hl => match us, hl with | [_, _, _], _ => rfl), ⟨fun vs H Q E h => ?_, fun A outer s H args us vs Q E _ _ _ _ h => ?_⟩⟩
    · obtain ⟨b, l, m, _, _, _, hd, _⟩ := h
      omega
    · obtain ⟨b, l, m, _, _, _, hd, _⟩ := h
      omega
  | n + 1 => condition_step T n (ok_condition T n)
end
end K02


end
section
set_option Elab.async false
set_option linter.all false
set_option maxRecDepth 100000
set_option maxHeartbeats 4000000
/-! ### readings by themselves -/
open PySem PySem.Spec PyProof.Rows L2 in
local macro_rules | `(tactic| k_allIn) => `(tactic| first | (with_reducible assumption) | exact upd_same | (refine Hk.same_upd (by assumption) _ _ ?_; k_allIn) | (refine (upd_ne (by first | assumption | exact Ne.symm (by assumption))).trans ?_; k_allIn))
open PySem PySem.Spec PyProof.Rows L2 in
local macro_rules | `(tactic| k_memK) => `(tactic| first | (with_reducible exact rfl) | (with_reducible assumption) | exact rfl | exact Hk.lk_hd | k_allIn | exact Or.inl (Or.inl (by k_allIn)) | exact ⟨_, rfl⟩ | exact Or.inl ⟨rfl, _, by assumption⟩ | exact Or.inl ⟨rfl, _, Or.inl (Or.inl (by k_allIn))⟩ | exact (fun _ h => h) | exact ClsV.own _ | exact ClsV.ty _ | exact Or.inl ‹_› | exact Or.inr ‹_› | lcg_src | exact Or.inl ⟨by omega, by omega⟩ | exact Or.inr ⟨by omega, by omega⟩ | exact ⟨by omega, by omega⟩ | exact Nat.le_of_lt (small1000 (by simp)) | exact small1000 (by simp) | exact Nat.le_of_lt (small1000 (by omega)) | exact small1000 (by omega) | omega | assumption | decide +kernel)
local macro_rules | `(tactic| lcg_sub) => `(tactic| (refine And.intro ?_ ?_; k_memK))
local macro_rules | `(tactic| k_subL) => `(tactic| (repeat (first | (apply Exists.intro) | lcg_sub | (refine Or.inl ⟨_, rfl, ?_⟩) | (refine Or.inr ⟨_, rfl, ?_⟩))))
namespace K02
open PySem PySem.Spec PyProof.Rows L2
open He (ga ma ba)
/-- a wrap stands at v: a number and a condition of one level -/
def WrapAt (K : PySem.W.Frag) (H : Hp) (v : V) : Prop := ∃ a k u c, v = .ref a ∧ SqT K H a [.int k, u] ∧ CeAt K H c u ∧ c.fine = true
theorem WrapAt.mono {K : PySem.W.Frag} {H H' : Hp} {v : V} (h : WrapAt K H v) (s : Same H H') : WrapAt K H' v :=
  let ⟨a, k, u, c, e, h1, h2, h3⟩ := h
  ⟨a, k, u, c, e, SqT.mono h1 s, CeAt.mono s h2, h3⟩
theorem WrapAt.but {K : PySem.W.Frag} {H H' : Hp} {b l : Addr} {v : V} (h : WrapAt K H v) (B : BoxAt H b l) (s : SameBut b H H') : WrapAt K H' v :=
  let ⟨a, k, u, c, e, h1, h2, h3⟩ := h
  ⟨a, k, u, c, e, SqT.but h1 B s, CeAt.but B s h2, h3⟩
theorem SqT.set {K : PySem.W.Frag} {H : Hp} {a D : Addr} {xs ys : List V} {o : HO} (h : SqT K H a xs) (e : H D = some (.lst ys)) : SqT K (upd H D o) a xs := by
  rcases h with (h | ⟨u, h⟩) | h
  · exact .inl (.inl (by rw [upd_ne (ne_of h e (by intro z; cases z))]; exact h))
  · exact .inl (.inr ⟨u, by rw [upd_ne (ne_of h e (by intro z; cases z))]; exact h⟩)
  · exact .inr h
theorem CeAt.set {K : PySem.W.Frag} {H : Hp} {D : Addr} {ys : List V} {o : HO} (e : H D = some (.lst ys)) : ∀ {c : Ce} {v : V}, CeAt K H c v → CeAt K (upd H D o) c v
  | .eql .., _, ⟨a, q, h⟩ => ⟨a, q, SqT.set h e⟩
  | .lss .., _, ⟨a, q, h⟩ => ⟨a, q, SqT.set h e⟩
  | .unk .., _, ⟨a, q, h⟩ => ⟨a, q, SqT.set h e⟩
  | .alw, _, ⟨a, q, h⟩ => ⟨a, q, SqT.set h e⟩
  | .quo .., _, ⟨a, q, h⟩ => ⟨a, q, SqT.set h e⟩
  | .bad, _, ⟨a, xs, q, h, b⟩ => ⟨a, xs, q, SqT.set h e, b⟩
  | .neg _, _, ⟨a, u, q, h, k⟩ => ⟨a, u, q, SqT.set h e, CeAt.set e k⟩
  | .and .., _, ⟨a, u, t, q, h, k, l⟩ => ⟨a, u, t, q, SqT.set h e, CeAt.set e k, CeAt.set e l⟩
  | .or .., _, ⟨a, u, t, q, h, k, l⟩ => ⟨a, u, t, q, SqT.set h e, CeAt.set e k, CeAt.set e l⟩
theorem WrapAt.set {K : PySem.W.Frag} {H : Hp} {D : Addr} {ys : List V} {o : HO} {v : V} (h : WrapAt K H v) (e : H D = some (.lst ys)) : WrapAt K (upd H D o) v :=
  let ⟨a, k, u, c, q, h1, h2, h3⟩ := h
  ⟨a, k, u, c, q, SqT.set h1 e, CeAt.set e h2, h3⟩
def sp_wraps (K : PySem.W.Frag) : Sp := fun vs H Q _ => ∃ b l m, vs = [.ref b, .int m] ∧ BoxAt H b l ∧ 0 ≤ m ∧ m < 12 ∧ ∀ p xs H', p ≠ b → H' p = some (.lst xs) → (xs.length : Int) = m → (∀ x ∈ xs, WrapAt K H' x) → BoxAt H' b l → SameBut b H H' → Q (.ref p) H'
def sp_wrapped (K : PySem.W.Frag) : Sp := fun vs H Q _ => ∃ x v c, vs = [x, v] ∧ WrapAt K H x ∧ CeAt K H c v ∧ ∀ p cd H', Same H H' → CeAt K H' cd p → cd.fine = true → Q p H'
section
variable {P : Program} {w : World} {K : PySem.W.Frag} {mg : Str → Option Value} {base : Heap}
theorem ok_wrapped (T : Txt w K mg) : Hk.GOk P w K mg base CX0 1 "_law_wrapped" ["_law_wrap", "_law_condition_here"] (sp_wrapped K) := by
  refine Hk.mkG T.g__law_wrapped T.f_wrapped (fun _ _ _ _ _ _ us hl => match us, hl with | [_, _], _ => rfl) sc_wrapped (fun vs H Q E h => ?_) (fun cdv A outer s H vs Q E hr h => ?_)
  · obtain ⟨x, v, c, rfl, _⟩ := h
    rfl
  · obtain ⟨x, v, c, rfl, ⟨a, k, u, cu, rfl, h1, h2, gu⟩, hc, q⟩ := h
    refine ⟨_, (pss_cons (ps_if (pt_cmpR op_eq (pe_ix ix_tup (pv 0) pe_int (fun _ _ => rfl)) pe_int (nomark _))
        (pss_one (ps_ret (pe_tup (pa_cons pe_str (pa_cons (pv 1) (pa_cons (pe_ix ix_tup (pv 0) pe_int (fun _ _ => rfl)) pa_nil))))))
        pss_nil)
      (pss_cons (ps_if (pt_cmpR op_eq (pe_ix ix_tup (pv 0) pe_int (fun _ _ => rfl)) pe_int (nomark _))
        (pss_one (ps_ret (pe_tup (pa_cons pe_str (pa_cons (pe_ix ix_tup (pv 0) pe_int (fun _ _ => rfl)) (pa_cons (pv 1) pa_nil))))))
        pss_nil)
      (pss_cons (ps_if (pt_cmpR op_eq (pe_ix ix_tup (pv 0) pe_int (fun _ _ => rfl)) pe_int (nomark _))
        (pss_one (ps_ret (pe_tup (pa_cons pe_str (pa_cons (pv 1) (pa_cons (pe_ix ix_tup (pv 0) pe_int (fun _ _ => rfl)) pa_nil))))))
        pss_nil)
      (pss_cons (ps_if (pt_cmpR op_eq (pe_ix ix_tup (pv 0) pe_int (fun _ _ => rfl)) pe_int (nomark _))
        (pss_one (ps_ret (pe_tup (pa_cons pe_str (pa_cons (pe_ix ix_tup (pv 0) pe_int (fun _ _ => rfl)) (pa_cons (pv 1) pa_nil))))))
        pss_nil)
      (pss_one (ps_ret (pe_tup (pa_cons pe_str (pa_cons (pv 1) pa_nil))))))))), ?_⟩
    k_subL
    refine ite2 (fun e => ?_) (fun e => ?_)
    · k_subL
      intro p np
      have s : Same H _ := Hk.same_upd (o := .tup [.str "and", v, u]) np
      exact q _ (.and c cu) _ s ⟨p, _, _, rfl, .inl (.inl upd_same), hc.mono s, h2.mono s⟩ rfl
    k_subL
    refine ite2 (fun e => ?_) (fun e => ?_)
    · k_subL
      intro p np
      have s : Same H _ := Hk.same_upd (o := .tup [.str "or", u, v]) np
      exact q _ (.or cu c) _ s ⟨p, _, _, rfl, .inl (.inl upd_same), h2.mono s, hc.mono s⟩ rfl
    k_subL
    refine ite2 (fun e => ?_) (fun e => ?_)
    · k_subL
      intro p np
      have s : Same H _ := Hk.same_upd (o := .tup [.str "or", v, u]) np
      exact q _ (.or c cu) _ s ⟨p, _, _, rfl, .inl (.inl upd_same), hc.mono s, h2.mono s⟩ rfl
    k_subL
    refine ite2 (fun e => ?_) (fun e => ?_)
    · k_subL
      intro p np
      have s : Same H _ := Hk.same_upd (o := .tup [.str "and", u, v]) np
      exact q _ (.and cu c) _ s ⟨p, _, _, rfl, .inl (.inl upd_same), h2.mono s, hc.mono s⟩ rfl
    k_subL
    intro p np
    have s : Same H _ := Hk.same_upd (o := .tup [.str "not", v]) np
    exact q _ (.neg c) _ s ⟨p, _, rfl, .inl (.inl upd_same), hc.mono s⟩ rfl
theorem ok_wraps (T : Txt w K mg) : Hk.GOk P w K mg base CX0 4 "_law_wraps" ["_law_box_here", "_law_many"] (sp_wraps K) := by
  refine Hk.mkG T.g__law_wraps T.f_wraps (fun _ _ _ _ _ _ us hl => match us, hl with | [_, _], _ => rfl) sc_wraps (fun vs H Q E h => ?_) (fun cdv A outer s H vs Q E hr h => ?_)
  · obtain ⟨b, l, m, rfl, _⟩ := h
    rfl
  · obtain ⟨b, l, m, rfl, hb, m0, m1, q⟩ := h
    refine ⟨_, (pss_one (ps_ret (pe_lc (own := [("_law_k", 2)]) rfl sc_wraps.nd (pi_range1 (by rfl) T.z_range (pa_cons (pv 1) pa_nil)) (blkOk_by (own := [("_law_k", 2)]) (N := ["_law_box_here", "_law_many", "_law_k"]) (sc := defScope s_wraps) (by decide +kernel)) (fun _ _ _ _ _ => pg_name (i := 2) sc_wraps.nd rfl (Or.inl rfl)) (fun _ _ _ _ _ => pts_nil) (fun _ _ _ _ _ => (pe_tup (pa_cons (Hk.pe_g (ok_draw T) (hr.mono (by decide)) pass0 (pa_cons (pv 0) (pa_cons pe_int pa_nil))) (pa_cons (Hk.pe_g (ok_condition T 1) (hr.mono (by decide : 2 ≤ 3)) pass0 (pa_cons (pv 0) (pa_cons pe_int (pa_cons pe_int pa_nil)))) pa_nil))))))), ?_⟩
    k_subL
    intro D nD
    have hbD := hb.upd (o := .lst []) nD
    have sD := Same.but (Hk.same_upd (o := .lst []) nD) b
    have neb := hb.ne nD
    have nel := hb.nel nD
    refine lc_range (Pv := fun i H' => ∃ xs, H' D = some (.lst xs) ∧ xs.length = i ∧ (∀ x ∈ xs, WrapAt K H' x) ∧ BoxAt H' b l ∧ SameBut b H H') ⟨[], upd_same, rfl, nofun, hbD, sD⟩ (fun i H' hi hp => ?_) (fun H' hp => ?_)
    · obtain ⟨xs, hx, hlen, hall, hb1, s1⟩ := hp
      k_subL
      intro k H2 k0 k1 hb2 s2
      k_subL
      intro v c H3 g3 w3 hb3 s3
      k_subL
      intro p4 n4
      have hx3 := s3 _ _ (s2 _ _ hx neb) neb
      have s4 : Same H3 _ := Hk.same_upd (o := .tup [.int k, v]) n4
      have hx4 := s4 _ _ hx3
      have hb4 := hb3.upd (o := .tup [.int k, v]) n4
      have neb4 : D ≠ b := neb
      refine ⟨xs, hx4, small1000 (by omega), xs ++ [.ref p4], upd_same, by rw [List.length_append, hlen] <;> rfl, fun x hx' => ?_, hb4.set neb nel, ?_⟩
      · rcases List.mem_append.mp hx' with hx' | hx'
        · exact ((((hall x hx').but hb1 s2).but hb2 s3).mono s4).set hx4
        · obtain rfl := List.mem_singleton.mp hx'
          exact WrapAt.set ⟨p4, k, v, c, rfl, .inl (.inl upd_same), g3.mono s4, w3⟩ hx4
      · intro y o hy ny
        have hyD : y ≠ D := ne_of_none hy nD
        rw [upd_ne hyD]
        exact s4 _ _ (s3 _ _ (s2 _ _ (s1 _ _ hy ny) ny) ny)
    · obtain ⟨xs, hx, hlen, hall, hb1, s1⟩ := hp
      exact q _ xs _ neb hx (by omega) hall hb1 s1
end
end K02


end
section
set_option Elab.async false
set_option linter.all false
set_option maxRecDepth 100000
set_option maxHeartbeats 4000000
/-! ### readings by themselves -/
open PySem PySem.Spec PyProof.Rows L2 in
local macro_rules | `(tactic| k_allIn) => `(tactic| first | (with_reducible assumption) | exact upd_same | (refine Hk.same_upd (by assumption) _ _ ?_; k_allIn) | (refine (upd_ne (by first | assumption | exact Ne.symm (by assumption))).trans ?_; k_allIn))
open PySem PySem.Spec PyProof.Rows L2 in
local macro_rules | `(tactic| k_memK) => `(tactic| first | (with_reducible exact rfl) | (with_reducible assumption) | exact rfl | exact Hk.lk_hd | k_allIn | exact Or.inl (Or.inl (by k_allIn)) | exact ⟨_, rfl⟩ | exact Or.inl ⟨rfl, _, by assumption⟩ | exact Or.inl ⟨rfl, _, Or.inl (Or.inl (by k_allIn))⟩ | exact (fun _ h => h) | exact ClsV.own _ | exact ClsV.ty _ | exact Or.inl ‹_› | exact Or.inr ‹_› | lcg_src | exact Or.inl ⟨by omega, by omega⟩ | exact Or.inr ⟨by omega, by omega⟩ | exact ⟨by omega, by omega⟩ | exact Nat.le_of_lt (small1000 (by simp)) | exact small1000 (by simp) | exact Nat.le_of_lt (small1000 (by omega)) | exact small1000 (by omega) | omega | assumption | decide +kernel)
local macro_rules | `(tactic| lcg_sub) => `(tactic| (refine And.intro ?_ ?_; k_memK))
local macro_rules | `(tactic| k_subL) => `(tactic| (repeat (first | (apply Exists.intro) | lcg_sub | (refine Or.inl ⟨_, rfl, ?_⟩) | (refine Or.inr ⟨_, rfl, ?_⟩))))
namespace K02
open PySem PySem.Spec PyProof.Rows L2
open He (ga ma ba)
def sp_spoilt (K : PySem.W.Frag) : Sp := fun vs H Q _ => ∃ b l c ce, vs = [.ref b, c] ∧ BoxAt H b l ∧ CeAt K H ce c ∧ ce.fine = true ∧ ∀ p ce' H', CeAt K H' ce' p → BoxAt H' b l → SameBut b H H' → Q p H'
/-- what a fine condition's items are -/
structure Itm (K : PySem.W.Frag) (H : Hp) (ce : Ce) (a : Addr) (z : Str) (vs : List V) : Prop where
  sq : SqT K H a (.str z :: vs)
  ar : (z, vs.length) ∈ ars
  lo : vs.length ≤ 3
  num : ¬ (z = "not" ∨ z = "and" ∨ z = "or") → ∃ cs : List (Option Int), vs = cs.map cellV ∧ ∀ (H' : Hp) (p : Addr) (ds : List (Option Int)), ds.length = cs.length → SqT K H' p (.str z :: ds.map cellV) → ∃ ce', CeAt K H' ce' (.ref p)
section
variable {P : Program} {w : World} {K : PySem.W.Frag} {mg : Str → Option Value} {base : Heap}
theorem itm {H : Hp} {ce : Ce} {c : V} (h : CeAt K H ce c) (hf : ce.fine = true) : ∃ a z vs, c = .ref a ∧ Itm K H ce a z vs := by
  cases ce with
  | bad => cases hf
  | alw =>
    obtain ⟨a, rfl, h⟩ := h
    exact ⟨a, _, [], rfl, h, by decide +kernel, by decide, fun _ => ⟨[], rfl, fun H' p ds hl hs => by
      match ds, hl with
      | [], _ => exact ⟨.alw, p, rfl, hs⟩⟩⟩
  | eql x y =>
    obtain ⟨a, rfl, h⟩ := h
    exact ⟨a, _, [cellV x, cellV y], rfl, h, (show (("equal" : Str), 2) ∈ ars by decide +kernel), (show 2 ≤ 3 by decide), fun _ => ⟨[x, y], rfl, fun H' p ds hl hs => by
      match ds, hl with
      | [x, y], _ => exact ⟨.eql x y, p, rfl, hs⟩⟩⟩
  | lss x y =>
    obtain ⟨a, rfl, h⟩ := h
    exact ⟨a, _, [cellV x, cellV y], rfl, h, (show (("below" : Str), 2) ∈ ars by decide +kernel), (show 2 ≤ 3 by decide), fun _ => ⟨[x, y], rfl, fun H' p ds hl hs => by
      match ds, hl with
      | [x, y], _ => exact ⟨.lss x y, p, rfl, hs⟩⟩⟩
  | unk x =>
    obtain ⟨a, rfl, h⟩ := h
    exact ⟨a, _, [cellV x], rfl, h, (show (("unknown" : Str), 1) ∈ ars by decide +kernel), (show 1 ≤ 3 by decide), fun _ => ⟨[x], rfl, fun H' p ds hl hs => by
      match ds, hl with
      | [x], _ => exact ⟨.unk x, p, rfl, hs⟩⟩⟩
  | quo x y t =>
    obtain ⟨a, rfl, h⟩ := h
    exact ⟨a, _, [cellV x, cellV y, cellV t], rfl, h, (show (("quotient" : Str), 3) ∈ ars by decide +kernel), (show 3 ≤ 3 by decide), fun _ => ⟨[x, y, t], rfl, fun H' p ds hl hs => by
      match ds, hl with
      | [x, y, t], _ => exact ⟨.quo x y t, p, rfl, hs⟩⟩⟩
  | neg x =>
    obtain ⟨a, u, rfl, h, _⟩ := h
    exact ⟨a, _, [u], rfl, h, (show (("not" : Str), 1) ∈ ars by decide +kernel), (show 1 ≤ 3 by decide), fun n => absurd (Or.inl rfl) n⟩
  | and x y =>
    obtain ⟨a, u, t, rfl, h, _⟩ := h
    exact ⟨a, _, [u, t], rfl, h, (show (("and" : Str), 2) ∈ ars by decide +kernel), (show 2 ≤ 3 by decide), fun n => absurd (Or.inr (Or.inl rfl)) n⟩
  | or x y =>
    obtain ⟨a, u, t, rfl, h, _⟩ := h
    exact ⟨a, _, [u, t], rfl, h, (show (("or" : Str), 2) ∈ ars by decide +kernel), (show 2 ≤ 3 by decide), fun n => absurd (Or.inr (Or.inr rfl)) n⟩
def six (z : Str) : List V := [.str (z ++ "s"), .str (Txt.upper z), .str (cutS z none (some (-1))), .str (" " ++ z), .str "", .str "any"]
theorem no_ars {z : Str} (h : z ∉ ars.map (·.1)) : ∀ n, (z, n) ∉ ars := fun n m => h (List.mem_map.mpr ⟨_, m, rfl⟩)
def sixB (z : Str) : Bool := (six z).all fun v => match v with
  | .str y => decide (y ∉ ars.map (·.1))
  | _ => false
theorem six_no {z : Str} {n : Nat} (h : (z, n) ∈ ars) : sixB z = true ∧ z.length ≤ 8 := by
  unfold ars at h
  simp only [List.mem_cons, List.not_mem_nil, or_false, Prod.mk.injEq] at h
  rcases h with ⟨rfl, rfl⟩ | ⟨rfl, rfl⟩ | ⟨rfl, rfl⟩ | ⟨rfl, rfl⟩ | ⟨rfl, rfl⟩ | ⟨rfl, rfl⟩ | ⟨rfl, rfl⟩ | ⟨rfl, rfl⟩ <;> exact ⟨by decide +kernel, by decide +kernel⟩
theorem six_at {z : Str} {n k : Nat} {v : V} (h : (z, n) ∈ ars) (e : (six z)[k]? = some v) : ∃ y, v = .str y ∧ ∀ n, (y, n) ∉ ars := by
  have q := List.all_eq_true.mp (six_no h).1 v (List.mem_of_getElem? e)
  cases v with
  | str y => exact ⟨y, rfl, no_ars (of_decide_eq_true q)⟩
  | _ => cases q
theorem cutLast {x : V} {vs : List V} : cutV (x :: vs) none (some (-1)) = (x :: vs).take vs.length ∧ ¬ (HT.sIx (x :: vs).length (x :: vs).length (some (-1)) = (x :: vs).length) := by
  have e : HT.sIx (vs.length + 1) (vs.length + 1) (some (-1)) = vs.length := by
    show (if ((-1 : Int) < 0) then ((-1 : Int) + ((vs.length + 1 : Nat) : Int)).toNat else min ((-1 : Int).toNat) (vs.length + 1)) = vs.length
    rw [if_pos (by decide)]
    omega
  refine ⟨?_, fun z => ?_⟩
  · show ((x :: vs).drop 0).take (HT.sIx (vs.length + 1) (vs.length + 1) (some (-1)) - 0) = _
    rw [e]
    rfl
  · have z' : HT.sIx (vs.length + 1) (vs.length + 1) (some (-1)) = vs.length + 1 := z
    omega
theorem cutTo {x : V} {vs : List V} {j : Nat} (h : j < vs.length) : cutV (x :: vs) none (some (1 + (j : Int))) = x :: vs.take j ∧ ¬ (HT.sIx (x :: vs).length (x :: vs).length (some (1 + (j : Int))) = (x :: vs).length) := by
  have e0 : (1 + (j : Int)) = ((j + 1 : Nat) : Int) := by omega
  have e : HT.sIx (vs.length + 1) (vs.length + 1) (some (1 + (j : Int))) = j + 1 := by
    rw [e0, HT.sIx_nat]
    omega
  refine ⟨?_, fun z => ?_⟩
  · show ((x :: vs).drop 0).take (HT.sIx (vs.length + 1) (vs.length + 1) (some (1 + (j : Int))) - 0) = _
    rw [e]
    rfl
  · have z' : HT.sIx (vs.length + 1) (vs.length + 1) (some (1 + (j : Int))) = vs.length + 1 := z
    omega
theorem cutFrom {x : V} {vs : List V} {j : Nat} (h : j < vs.length) : cutV (x :: vs) (some (1 + (j : Int) + 1)) none = vs.drop (j + 1) ∧ ¬ (HT.sIx (x :: vs).length 0 (some (1 + (j : Int) + 1)) = 0) := by
  have e0 : (1 + (j : Int) + 1) = ((j + 2 : Nat) : Int) := by omega
  have e : HT.sIx (vs.length + 1) 0 (some (1 + (j : Int) + 1)) = j + 2 := by
    rw [e0, HT.sIx_nat]
    omega
  refine ⟨?_, fun z => ?_⟩
  · show ((x :: vs).drop (HT.sIx (vs.length + 1) 0 (some (1 + (j : Int) + 1)))).take ((vs.length + 1) - HT.sIx (vs.length + 1) 0 (some (1 + (j : Int) + 1))) = _
    rw [e]
    show (vs.drop (j + 1)).take _ = _
    rw [List.take_of_length_le]
    rw [List.length_drop]
    omega
  · have z' : HT.sIx (vs.length + 1) 0 (some (1 + (j : Int) + 1)) = 0 := z
    omega
theorem fives {k : Nat} {v : V} (h : [V.int 3, V.int (-1), V.non, V.int 4, V.int 1000000][k]? = some v) : ∃ o : Option Int, v = cellV o := by
  match k, h with
  | 0, h => cases h; exact ⟨some 3, rfl⟩
  | 1, h => cases h; exact ⟨some (-1), rfl⟩
  | 2, h => cases h; exact ⟨none, rfl⟩
  | 3, h => cases h; exact ⟨some 4, rfl⟩
  | 4, h => cases h; exact ⟨some 1000000, rfl⟩
  | k + 5, h => simp at h
theorem ok_spoilt (T : Txt w K mg) : Hk.GOk P w K mg base CX0 4 "_law_spoilt" ["_law_box_here", "_law_condition_here"] (sp_spoilt K) := by
  refine Hk.mkG T.g__law_spoilt T.f_spoilt (fun _ _ _ _ _ _ us hl => match us, hl with | [_, _], _ => rfl) sc_spoilt (fun vs H Q E h => ?_) (fun cdv A outer s H vs Q E hr h => ?_)
  · obtain ⟨b, l, c, ce, rfl, _⟩ := h
    rfl
  · obtain ⟨b, l, c, ce, rfl, hb, hc, hf, q⟩ := h
    refine ⟨_, (pss_cons (ps_set (i := 2) sc_spoilt.nd rfl (.inl rfl) (Hk.pe_g (ok_draw T) (hr.mono (by decide)) pass0 (pa_cons (pv 0) (pa_cons pe_int pa_nil))))
      (pss_cons (ps_set (i := 3) sc_spoilt.nd rfl (.inl rfl) (pe_ix ix_tup (pv 1) pe_int (fun _ _ => rfl)))
      (pss_cons (ps_if (pt_cmpR op_eq (pv 2) pe_int (nomark _))
        (pss_one (ps_ret (pe_op op_catA (pe_tup (pa_cons (Hk.pe_g (ok_pick T) (hr.mono (by decide)) pass0 (pa_cons (pv 0) (pa_cons (pe_lst (pa_cons (pe_op op_add_str (pv 3) pe_str) (pa_cons (pe_upper (pv 3)) (pa_cons (pe_slice sl_str (pv 3) po_none (po_some (pe_un un_neg pe_int))) (pa_cons (pe_op op_add_str pe_str (pv 3)) (pa_cons pe_str (pa_cons pe_str pa_nil))))))) pa_nil))) pa_nil)) (pe_slice sl_tupA (pv 1) (po_some pe_int) po_none))))
        pss_nil)
      (pss_cons (ps_if (pt_cmpR op_eq (pv 2) pe_int (nomark _))
        (pss_one (ps_ret (pe_slice sl_tupA (pv 1) po_none (po_some (pe_un un_neg pe_int)))))
        pss_nil)
      (pss_cons (ps_if (pt_cmpR op_in_seq (pv 3) (pe_lst (pa_cons pe_str (pa_cons pe_str (pa_cons pe_str pa_nil)))) rfl)
        (pss_one (ps_ret (pe_op op_catA (pv 1) (pe_tup (pa_cons (pe_tup (pa_cons pe_str pa_nil)) pa_nil)))))
        pss_nil)
      (pss_cons (ps_if (PW.pt (pw_or (pt_cmpR op_eq (pv 2) pe_int (nomark _)) (pw_or1 (pt_cmpR op_eq (pe_callB call_len_seq (by rfl) T.z_len (by decide +kernel) (pa_cons (pv 1) pa_nil)) pe_int (nomark _)))))
        (pss_one (ps_ret (pe_op op_catA (pv 1) (pe_tup (pa_cons pe_int pa_nil)))))
        pss_nil)
      (pss_cons (ps_set (i := 4) sc_spoilt.nd rfl (.inl rfl) (pe_op op_add pe_int (Hk.pe_g (ok_draw T) (hr.mono (by decide)) pass0 (pa_cons (pv 0) (pa_cons (pe_op op_sub (pe_callB call_len_seq (by rfl) T.z_len (by decide +kernel) (pa_cons (pv 1) pa_nil)) pe_int) pa_nil)))))
      (pss_one (ps_ret (pe_op op_catA (pe_op op_catA (pe_slice sl_tupA (pv 1) po_none (po_some (pv 4))) (pe_tup (pa_cons (Hk.pe_g (ok_pick T) (hr.mono (by decide)) pass0 (pa_cons (pv 0) (pa_cons (pe_lst (pa_cons pe_int (pa_cons (pe_un un_neg pe_int) (pa_cons pe_non (pa_cons pe_int (pa_cons pe_int pa_nil)))))) pa_nil))) pa_nil))) (pe_slice sl_tupA (pv 1) (po_some (pe_op op_add (pv 4) pe_int)) po_none))))))))))), ?_⟩
    obtain ⟨a, z, vs, rfl, I⟩ := itm hc hf
    have a0 : atI (V.str z :: vs) 0 = some (V.str z) := show atI (V.str z :: vs) ((0 : Nat) : Int) = _ from atI_nat rfl
    have h1 := I.sq
    k_subL
    intro kind H1 k0 k1 hb1 s1
    have h2 := SqT.but h1 hb s1
    have hz := (six_no I.ar).2
    have zl : z.length ≤ 5592405 := by omega
    have zl2 : z.length + ("s" : Str).length ≤ sizeLine := Nat.le_of_lt (small1000 (by have : ("s" : Str).length = 1 := by decide +kernel
                                                                                       omega))
    have zl3 : (" " : Str).length + z.length ≤ sizeLine := Nat.le_of_lt (small1000 (by have : (" " : Str).length = 1 := by decide +kernel
                                                                                       omega))
    have zl4 : z.length ≤ sizeLine := Nat.le_of_lt (small1000 (by omega))
    dsimp only [gName]
    refine Hk.seq_rest (fun σ' H' => σ' = [some (.ref b), some (.ref a), some (.int kind), some (.str z), none] ∧ H1 = H') (fun nx hnx => ?_) ?_
    · k_subL
      exact hnx _ _ ⟨rfl, rfl⟩
    rintro _ _ ⟨rfl, rfl⟩
    by_cases hk0 : kind = 0
    · subst hk0
      k_subL
      intro p np
      have hb2 := hb1.upd (o := .lst (six z)) np
      have nb := hb1.ne np
      have s2' : Same H1 _ := Hk.same_upd (o := .lst (six z)) np
      have s2 := s1.trans (Same.but s2' b)
      have h3 := SqT.mono h2 s2'
      have hl : SqL K (upd H1 p (.lst (six z))) p (six z) := .inl (.inl upd_same)
      have h6 : 0 < (six z).length := (show 0 < 6 by decide)
      have h7 : (six z).length ≤ 1000 := (show 6 ≤ 1000 by decide)
      k_subL
      intro k y H2 hy hb3 s3
      obtain ⟨y', rfl, hno⟩ := six_at I.ar hy
      have h4 := SqT.but h3 hb2 s3
      have sx := s2.trans s3
      k_subL
      intro p1 np1
      have hb4 := hb3.upd (o := .tup [.str y']) np1
      generalize hH3 : upd H2 p1 (.tup [.str y']) = H3 at hb4
      have s4 : Same H2 H3 := by rw [← hH3]; exact Hk.same_upd np1
      have q1 : SqT K H3 p1 [.str y'] := by rw [← hH3]; exact .inl (.inl upd_same)
      have h5 := SqT.mono h4 s4
      k_subL
      refine And.intro (fun e => (sIx1 e.1).elim) (fun _ p2 np2 => ?_)
      rw [cut1]
      have hb5 := hb4.upd (o := .tup vs) np2
      generalize hH4 : upd H3 p2 (.tup vs) = H4 at hb5
      have s5 : Same H3 H4 := by rw [← hH4]; exact Hk.same_upd np2
      have q2 : SqT K H4 p2 vs := by rw [← hH4]; exact .inl (.inl upd_same)
      have q1' := SqT.mono q1 s5
      have lz : [V.str y'].length + vs.length ≤ sizeLine := Nat.le_of_lt (small1000 (by have := I.lo; have e1 : [V.str y'].length = 1 := rfl; omega))
      have s6 := sx.trans (Same.but (s4.trans s5) b)
      k_subL
      refine And.intro (fun e => nomatch e) (And.intro (fun _ e => ?_) (fun _ _ p3 np3 => ?_))
      · exact q _ .bad _ ⟨p1, _, rfl, q1', .inr ⟨y', [], rfl, by decide, .inl hno⟩⟩ hb5 s6
      · exact q _ .bad _ ⟨p3, _, rfl, .inl (.inl upd_same), .inr ⟨y', vs, rfl, by have := I.lo; omega, .inl hno⟩⟩ (hb5.upd np3) (s6.trans (Same.but (Hk.same_upd np3) b))
    have hkb : decide (V.int kind = V.int 0) = false := decide_eq_false fun e => hk0 (V.int.inj e)
    refine Hk.seq_skip (fun nx hnx => ?_) ?_
    · k_subL
      rw [hkb]
      k_subL
      exact hnx
    by_cases hk1 : kind = 1
    · subst hk1
      k_subL
      refine And.intro (fun e => (cutLast.2 e.2).elim) (fun _ p np => ?_)
      rw [cutLast.1]
      refine q _ .bad _ ⟨p, _, rfl, .inl (.inl upd_same), ?_⟩ (hb1.upd np) (s1.trans (Same.but (Hk.same_upd np) b))
      cases hv : vs with
      | nil => exact .inl rfl
      | cons x r =>
        refine .inr ⟨z, (x :: r).take r.length, rfl, ?_, .inr ⟨_, I.ar, ?_⟩⟩
        · have := I.lo
          rw [hv] at this
          rw [List.length_take]
          simp only [List.length_cons] at this ⊢
          omega
        · rw [hv, List.length_take]
          simp only [List.length_cons]
          omega
    have hkc : decide (V.int kind = V.int 1) = false := decide_eq_false fun e => hk1 (V.int.inj e)
    refine Hk.seq_skip (fun nx hnx => ?_) ?_
    · k_subL
      rw [hkc]
      k_subL
      exact hnx
    k_subL
    intro p np
    have hb2 := hb1.upd (o := .lst [.str "not", .str "and", .str "or"]) np
    generalize hH2 : upd H1 p (.lst [.str "not", .str "and", .str "or"]) = H2 at hb2
    have s3 : Same H1 H2 := by rw [← hH2]; exact Hk.same_upd np
    have hl : SqL K H2 p [.str "not", .str "and", .str "or"] := by rw [← hH2]; exact .inl (.inl upd_same)
    have h3 := SqT.mono h2 s3
    have sx := s1.trans (Same.but s3 b)
    have hlo := I.lo
    have hxl : (V.str z :: vs).length = vs.length + 1 := rfl
    by_cases hcw : z = "not" ∨ z = "and" ∨ z = "or"
    · k_subL
      rw [show (if false = true then !inV (V.str z) [V.str "not", V.str "and", V.str "or"] else inV (V.str z) [V.str "not", V.str "and", V.str "or"]) = inV (V.str z) [V.str "not", V.str "and", V.str "or"] from rfl, con_in, decide_eq_true hcw]
      k_subL
      intro p1 np1
      have hb3 := hb2.upd (o := .tup [.str "always"]) np1
      generalize hH3 : upd H2 p1 (.tup [.str "always"]) = H3 at hb3
      have s4 : Same H2 H3 := by rw [← hH3]; exact Hk.same_upd np1
      have h4 := SqT.mono h3 s4
      k_subL
      intro p2 np2
      have hb4 := hb3.upd (o := .tup [.ref p1]) np2
      generalize hH4 : upd H3 p2 (.tup [.ref p1]) = H4 at hb4
      have s5 : Same H3 H4 := by rw [← hH4]; exact Hk.same_upd np2
      have q2 : SqT K H4 p2 [.ref p1] := by rw [← hH4]; exact .inl (.inl upd_same)
      have h5 := SqT.mono h4 s5
      have lz : (V.str z :: vs).length + [V.ref p1].length ≤ sizeLine := Nat.le_of_lt (small1000 (by have e1 : [V.ref p1].length = 1 := rfl; omega))
      have s6 := sx.trans (Same.but (s4.trans s5) b)
      k_subL
      refine And.intro (fun e => nomatch e) (And.intro (fun _ e => nomatch e) (fun _ _ p3 np3 => ?_))
      exact q _ .bad _ ⟨p3, _, rfl, .inl (.inl upd_same), .inr ⟨z, vs ++ [.ref p1], rfl, by rw [List.length_append]; show vs.length + 1 ≤ 6; omega, .inr ⟨_, I.ar, by rw [List.length_append]; show ¬ (vs.length + 1 = vs.length); omega⟩⟩⟩ (hb4.upd np3) (s6.trans (Same.but (Hk.same_upd np3) b))
    k_subL
    rw [show (if false = true then !inV (V.str z) [V.str "not", V.str "and", V.str "or"] else inV (V.str z) [V.str "not", V.str "and", V.str "or"]) = inV (V.str z) [V.str "not", V.str "and", V.str "or"] from rfl, con_in, decide_eq_false hcw]
    k_subL
    by_cases hk2 : kind = 2
    · rw [show decide (V.int kind = V.int 2) = true from decide_eq_true (congrArg V.int hk2)]
      k_subL
      intro p1 np1
      have hb3 := hb2.upd (o := .tup [.int 0]) np1
      generalize hH3 : upd H2 p1 (.tup [.int 0]) = H3 at hb3
      have s4 : Same H2 H3 := by rw [← hH3]; exact Hk.same_upd np1
      have q2 : SqT K H3 p1 [.int 0] := by rw [← hH3]; exact .inl (.inl upd_same)
      have h4 := SqT.mono h3 s4
      have lz : (V.str z :: vs).length + [V.int 0].length ≤ sizeLine := Nat.le_of_lt (small1000 (by have e1 : [V.int 0].length = 1 := rfl; omega))
      have s6 := sx.trans (Same.but s4 b)
      k_subL
      refine And.intro (fun e => nomatch e) (And.intro (fun _ e => nomatch e) (fun _ _ p3 np3 => ?_))
      exact q _ .bad _ ⟨p3, _, rfl, .inl (.inl upd_same), .inr ⟨z, vs ++ [.int 0], rfl, by rw [List.length_append]; show vs.length + 1 ≤ 6; omega, .inr ⟨_, I.ar, by rw [List.length_append]; show ¬ (vs.length + 1 = vs.length); omega⟩⟩⟩ (hb3.upd np3) (s6.trans (Same.but (Hk.same_upd np3) b))
    rw [show decide (V.int kind = V.int 2) = false from decide_eq_false fun e => hk2 (V.int.inj e)]
    k_subL
    by_cases hv0 : vs.length = 0
    · rw [show decide (V.int (((V.str z :: vs).length : Nat) : Int) = V.int 1) = true from decide_eq_true (congrArg V.int (by rw [hxl, hv0]; rfl))]
      k_subL
      intro p1 np1
      have hb3 := hb2.upd (o := .tup [.int 0]) np1
      generalize hH3 : upd H2 p1 (.tup [.int 0]) = H3 at hb3
      have s4 : Same H2 H3 := by rw [← hH3]; exact Hk.same_upd np1
      have q2 : SqT K H3 p1 [.int 0] := by rw [← hH3]; exact .inl (.inl upd_same)
      have h4 := SqT.mono h3 s4
      have lz : (V.str z :: vs).length + [V.int 0].length ≤ sizeLine := Nat.le_of_lt (small1000 (by have e1 : [V.int 0].length = 1 := rfl; omega))
      have s6 := sx.trans (Same.but s4 b)
      k_subL
      refine And.intro (fun e => nomatch e) (And.intro (fun _ e => nomatch e) (fun _ _ p3 np3 => ?_))
      exact q _ .bad _ ⟨p3, _, rfl, .inl (.inl upd_same), .inr ⟨z, vs ++ [.int 0], rfl, by rw [List.length_append]; show vs.length + 1 ≤ 6; omega, .inr ⟨_, I.ar, by rw [List.length_append]; show ¬ (vs.length + 1 = vs.length); omega⟩⟩⟩ (hb3.upd np3) (s6.trans (Same.but (Hk.same_upd np3) b))
    rw [show decide (V.int (((V.str z :: vs).length : Nat) : Int) = V.int 1) = false from decide_eq_false fun e => hv0 (by have := V.int.inj e; rw [hxl] at this; omega)]
    have hsz0 : (0 : Int) < (((V.str z :: vs).length : Nat) : Int) - 1 := by rw [hxl]; omega
    have hsz1 : (((V.str z :: vs).length : Nat) : Int) - 1 < 1000000 := by rw [hxl]; omega
    k_subL
    intro at_ H3 a0' a1' hb3 s4
    have h4 := SqT.but h3 hb2 s4
    have sy := sx.trans s4
    obtain ⟨cs, rfl, hcs⟩ := I.num hcw
    have hj : at_ < ((cs.map cellV).length : Int) := by
      have := a1'
      rw [hxl] at this
      omega
    obtain ⟨j, rfl⟩ : ∃ j : Nat, at_ = (j : Int) := ⟨at_.toNat, by omega⟩
    have hj2 : j < (cs.map cellV).length := by omega
    k_subL
    refine And.intro (fun e => ((cutTo hj2).2 e.2).elim) (fun _ p1 np1 => ?_)
    rw [(cutTo hj2).1]
    have hb4 := hb3.upd (o := .tup (.str z :: (cs.map cellV).take j)) np1
    generalize hH4 : upd H3 p1 (.tup (.str z :: (cs.map cellV).take j)) = H4 at hb4
    have s5 : Same H3 H4 := by rw [← hH4]; exact Hk.same_upd np1
    have q1 : SqT K H4 p1 (.str z :: (cs.map cellV).take j) := by rw [← hH4]; exact .inl (.inl upd_same)
    have h5 := SqT.mono h4 s5
    k_subL
    intro p2 np2
    have hb5 := hb4.upd (o := .lst [.int 3, .int (-1), .non, .int 4, .int 1000000]) np2
    have nb5 := hb4.ne np2
    generalize hH5 : upd H4 p2 (.lst [.int 3, .int (-1), .non, .int 4, .int 1000000]) = H5 at hb5
    have s6 : Same H4 H5 := by rw [← hH5]; exact Hk.same_upd np2
    have hl5 : SqL K H5 p2 [.int 3, .int (-1), .non, .int 4, .int 1000000] := by rw [← hH5]; exact .inl (.inl upd_same)
    have q1a := SqT.mono q1 s6
    have h6 := SqT.mono h5 s6
    have g0 : 0 < [V.int 3, V.int (-1), V.non, V.int 4, V.int 1000000].length := by decide
    have g1 : [V.int 3, V.int (-1), V.non, V.int 4, V.int 1000000].length ≤ 1000 := by decide
    k_subL
    intro k y H6 hy hb6 s7
    obtain ⟨o, rfl⟩ := fives hy
    have q1b := SqT.but q1a hb5 s7
    have h7 := SqT.but h6 hb5 s7
    k_subL
    intro p3 np3
    have hb7 := hb6.upd (o := .tup [cellV o]) np3
    generalize hH7 : upd H6 p3 (.tup [cellV o]) = H7 at hb7
    have s8 : Same H6 H7 := by rw [← hH7]; exact Hk.same_upd np3
    have q3 : SqT K H7 p3 [cellV o] := by rw [← hH7]; exact .inl (.inl upd_same)
    have q1c := SqT.mono q1b s8
    have h8 := SqT.mono h7 s8
    have lt : (V.str z :: (cs.map cellV).take j).length + [cellV o].length ≤ sizeLine := Nat.le_of_lt (small1000 (by
      have e1 : [cellV o].length = 1 := rfl
      have e2 : (V.str z :: (cs.map cellV).take j).length = ((cs.map cellV).take j).length + 1 := rfl
      rw [e1, e2, List.length_take]
      omega))
    k_subL
    refine And.intro (fun e => nomatch e) (And.intro (fun _ e => nomatch e) (fun _ _ p4 np4 => ?_))
    have hb8 := hb7.upd (o := .tup (.str z :: (cs.map cellV).take j ++ [cellV o])) np4
    generalize hH8 : upd H7 p4 (.tup (.str z :: (cs.map cellV).take j ++ [cellV o])) = H8 at hb8
    have s9 : Same H7 H8 := by rw [← hH8]; exact Hk.same_upd np4
    have q4 : SqT K H8 p4 (.str z :: (cs.map cellV).take j ++ [cellV o]) := by rw [← hH8]; exact .inl (.inl upd_same)
    have h9 := SqT.mono h8 s9
    k_subL
    refine And.intro (fun e => ((cutFrom hj2).2 e.1).elim) (fun _ p5 np5 => ?_)
    rw [(cutFrom hj2).1]
    have hb9 := hb8.upd (o := .tup ((cs.map cellV).drop (j + 1))) np5
    generalize hH9 : upd H8 p5 (.tup ((cs.map cellV).drop (j + 1))) = H9 at hb9
    have s10 : Same H8 H9 := by rw [← hH9]; exact Hk.same_upd np5
    have q5 : SqT K H9 p5 ((cs.map cellV).drop (j + 1)) := by rw [← hH9]; exact .inl (.inl upd_same)
    have q4b := SqT.mono q4 s10
    have lt2 : (V.str z :: (cs.map cellV).take j ++ [cellV o]).length + ((cs.map cellV).drop (j + 1)).length ≤ sizeLine := Nat.le_of_lt (small1000 (by
      rw [List.length_append, List.length_cons, List.length_take, List.length_drop, List.length_singleton]
      omega))
    have sz := ((((sy.trans (Same.but (s5.trans s6) b)).trans s7).trans (Same.but s8 b)).trans (Same.but s9 b)).trans (Same.but s10 b)
    have hds : (cs.take j ++ [o] ++ cs.drop (j + 1)).length = cs.length := by
      rw [List.length_map] at hj2
      rw [List.length_append, List.length_append, List.length_take, List.length_drop, List.length_singleton]
      omega
    have hmap : (cs.take j ++ [o] ++ cs.drop (j + 1)).map cellV = (cs.map cellV).take j ++ [cellV o] ++ (cs.map cellV).drop (j + 1) := by
      rw [List.map_append, List.map_append, List.map_take, List.map_drop]
      rfl
    k_subL
    refine And.intro (fun e => nomatch e) (And.intro (fun _ e => ?_) (fun _ _ p6 np6 => ?_))
    · have hs : SqT K H9 p4 (.str z :: (cs.take j ++ [o] ++ cs.drop (j + 1)).map cellV) := by
        rw [hmap, e, List.append_nil]
        exact q4b
      obtain ⟨ce', hce⟩ := hcs H9 p4 _ hds hs
      exact q _ ce' _ hce hb9 sz
    · have hs : SqT K (upd H9 p6 (.tup (.str z :: (cs.map cellV).take j ++ [cellV o] ++ (cs.map cellV).drop (j + 1)))) p6 (.str z :: (cs.take j ++ [o] ++ cs.drop (j + 1)).map cellV) := by
        rw [hmap]
        exact .inl (.inl upd_same)
      obtain ⟨ce', hce⟩ := hcs _ p6 _ hds hs
      exact q _ ce' _ hce (hb9.upd np6) (sz.trans (Same.but (Hk.same_upd np6) b))
end
end K02


end
section
set_option Elab.async false
set_option linter.all false
set_option maxRecDepth 100000
set_option maxHeartbeats 4000000
/-! ### readings by themselves -/
open PySem PySem.Spec PyProof.Rows L2 in
local macro_rules | `(tactic| k_allIn) => `(tactic| first | (with_reducible assumption) | exact upd_same | (refine Hk.same_upd (by assumption) _ _ ?_; k_allIn) | (refine (upd_ne (by first | assumption | exact Ne.symm (by assumption))).trans ?_; k_allIn))
open PySem PySem.Spec PyProof.Rows L2 in
local macro_rules | `(tactic| k_memK) => `(tactic| first | (with_reducible exact rfl) | (with_reducible assumption) | exact rfl | exact Hk.lk_hd | k_allIn | exact Or.inl (Or.inl (by k_allIn)) | exact ⟨_, rfl⟩ | exact Or.inl ⟨rfl, _, by assumption⟩ | exact Or.inl ⟨rfl, _, Or.inl (Or.inl (by k_allIn))⟩ | exact (fun _ h => h) | exact ClsV.own _ | exact ClsV.ty _ | exact Or.inl ‹_› | exact Or.inr ‹_› | lcg_src | exact Or.inl ⟨by omega, by omega⟩ | exact Or.inr ⟨by omega, by omega⟩ | exact ⟨by omega, by omega⟩ | exact Nat.le_of_lt (small1000 (by simp)) | exact small1000 (by simp) | exact Nat.le_of_lt (small1000 (by omega)) | exact small1000 (by omega) | omega | assumption | decide +kernel)
local macro_rules | `(tactic| lcg_sub) => `(tactic| (refine And.intro ?_ ?_; k_memK))
local macro_rules | `(tactic| k_subL) => `(tactic| (repeat (first | (apply Exists.intro) | lcg_sub | (refine Or.inl ⟨_, rfl, ?_⟩) | (refine Or.inr ⟨_, rfl, ?_⟩))))
namespace K02
open PySem PySem.Spec PyProof.Rows L2
open He (ga ma ba)
def sp_law (K : PySem.W.Frag) : Sp := fun vs H Q _ => ∃ (a : Addr) (ns : List Int), vs = [.ref a] ∧ SqL K H a (ns.map V.int) ∧ ns.length ≤ 63 ∧ ∀ H', Q (.bl true) H'
theorem tfor_any {K : PySem.W.Frag} {wi : TI} {g : TG} {tb : TS} {D : Ends} {σ : L2.St} {H : Hp} (S : Addr → List V → Hp → Prop) (hw : ∀ R : It → Hp → Prop, (∀ p xs H1, S p xs H1 → R (Itl K p) H1) → wi σ H R) (Pv : Addr → List V → Nat → L2.St → Hp → Prop) (h0 : ∀ p xs H1, S p xs H1 → Pv p xs 0 σ H1)
    (hl : ∀ p xs i σ H, Pv p xs i σ H → SqL K H p xs) (hs : ∀ p xs (i : Nat) x σ H (nx : L2.St → Hp → Prop), xs[i]? = some x → Pv p xs i σ H → (∀ σ' H', Pv p xs (i + 1) σ' H' → nx σ' H') → g x σ H fun σ2 H2 => tb { D with nx := nx, ct := nx, bk := D.nx } σ2 H2)
    (hd : ∀ p xs σ H, Pv p xs xs.length σ H → D.nx σ H) : tFor wi g tb D σ H :=
  hw _ fun p xs H1 hS => for_list (Pv p xs) (h0 p xs H1 hS) (fun i σ H _ h => hl p xs i σ H h) (fun i x σ H hi hp => hs p xs i x σ H _ hi hp fun _ _ q => q) (hd p xs)
section
variable {P : Program} {w : World} {K : PySem.W.Frag} {mg : Str → Option Value} {base : Heap}
theorem run_law (T : Txt w K mg) {fd : FuncData} (F : FunD K "law" "law" (defArgs s_law) (defBody s_law) (defScope s_law) [] [] (ga K "law") fd) : FnOk P w K mg base CX0 15 (ga K "law") fd ["_law_script"] (sp_law K) := by
  refine Hk.mkL F sc_law (fun vs H Q E h => ?_) (fun cdv A outer s H vs Q E hr h => ?_)
  · obtain ⟨a, ns, rfl, _⟩ := h
    rfl
  · obtain ⟨a, ns, rfl, hs, hn, qq⟩ := h
    refine ⟨_, (pss_cons (ps_set (i := 1) sc_law.nd rfl (.inl rfl) (Hk.pe_g (ok_box T) (hr.mono (by decide)) pass0 (pa_cons (pv 0) pa_nil)))
      (pss_cons (ps_set (i := 2) sc_law.nd rfl (.inl rfl) (Hk.pe_g (ok_draw T) (hr.mono (by decide)) pass0 (pa_cons (pv 1) (pa_cons pe_int pa_nil))))
      (pss_cons (ps_set (i := 3) sc_law.nd rfl (.inl rfl) (Hk.pe_g (ok_draw T) (hr.mono (by decide)) pass0 (pa_cons (pv 1) (pa_cons (pe_op op_add (pv 2) pe_int) pa_nil))))
      (pss_cons (ps_set (i := 4) sc_law.nd rfl (.inl rfl) (pe_op op_add pe_int (Hk.pe_g (ok_draw T) (hr.mono (by decide)) pass0 (pa_cons (pv 1) (pa_cons pe_int pa_nil)))))
      (pss_cons (ps_set (i := 5) sc_law.nd rfl (.inl rfl) (Hk.pe_g (ok_condition T 1) (hr.mono (by decide : 2 ≤ 14)) pass0 (pa_cons (pv 1) (pa_cons pe_int (pa_cons pe_int pa_nil)))))
      (pss_cons (ps_set (i := 6) sc_law.nd rfl (.inl rfl) (Hk.pe_g (ok_wraps T) (hr.mono (by decide)) pass0 (pa_cons (pv 1) (pa_cons (pv 2) pa_nil))))
      (pss_cons (ps_set (i := 7) sc_law.nd rfl (.inl rfl) (pv 5))
      (pss_cons (ps_if (pt_cmpR op_eq (pv 3) pe_int (nomark _))
        (pss_one (ps_set (i := 7) sc_law.nd rfl (.inl rfl) (Hk.pe_g (ok_spoilt T) (hr.mono (by decide)) pass0 (pa_cons (pv 1) (pa_cons (pv 5) pa_nil)))))
        pss_nil)
      (pss_cons (ps_for PassesOwn.never rfl (pi_range1 (by rfl) T.z_range (pa_cons (pv 2) pa_nil)) (pg_name (i := 8) sc_law.nd rfl (.inl rfl))
        (pss_cons (ps_set (i := 5) sc_law.nd rfl (.inl rfl) (Hk.pe_g (ok_wrapped T) (hr.mono (by decide)) pass0 (pa_cons (pe_ix ix_list (pv 6) (pv 8) (fun _ _ => rfl)) (pa_cons (pv 5) pa_nil))))
        (pss_cons (ps_set (i := 7) sc_law.nd rfl (.inl rfl) (Hk.pe_g (ok_wrapped T) (hr.mono (by decide)) pass0 (pa_cons (pe_ix ix_list (pv 6) (pv 8) (fun _ _ => rfl)) (pa_cons (pv 7) pa_nil))))
        (pss_one (ps_if (pt_cmpR op_eq (pv 3) (pe_op op_add (pv 8) pe_int) (nomark _))
          (pss_one (ps_set (i := 7) sc_law.nd rfl (.inl rfl) (Hk.pe_g (ok_spoilt T) (hr.mono (by decide)) pass0 (pa_cons (pv 1) (pa_cons (pv 7) pa_nil)))))
          pss_nil)))))
      (pss_cons (ps_for PassesOwn.never rfl (pi_list (pe_lst (pa_cons (pv 5) (pa_cons (pv 7) (pa_cons (pv 5) pa_nil))))) (pg_name (i := 9) sc_law.nd rfl (.inl rfl))
        (pss_cons (ps_for PassesOwn.never rfl (pi_range2 (by rfl) T.z_range (pa_cons pe_int (pa_cons pe_int pa_nil))) (pg_name (i := 10) sc_law.nd rfl (.inl rfl))
          (pss_one (ps_if (PW.pt (pw_or (pt_not (pt_val (Hk.pe_g (ok_checked T) (hr.mono (by decide)) pass0 (pa_cons (pv 9) (pa_cons (pv 10) (pa_cons pe_bl pa_nil)))))) (pw_or1 (pt_not (pt_val (Hk.pe_g (ok_checked T) (hr.mono (by decide)) pass0 (pa_cons (pv 9) (pa_cons (pv 10) (pa_cons pe_bl pa_nil)))))))))
            (pss_one (ps_ret pe_bl))
            pss_nil)))
        (pss_one (ps_for PassesOwn.never rfl (pi_range1 (by rfl) T.z_range (pa_cons pe_int pa_nil)) (pg_name (i := 11) sc_law.nd rfl (.inl rfl))
          (pss_one (ps_if (pt_not (pt_val (Hk.pe_g (ok_by_default T) (hr.mono (by decide)) pass0 (pa_cons (pv 9) (pa_cons (pv 4) (pa_cons (pv 11) pa_nil))))))
            (pss_one (ps_ret pe_bl))
            pss_nil))))))
      (pss_one (ps_ret pe_bl)))))))))))), ?_⟩
    k_subL
    intro b l H1 s1 nb nl hb1
    k_subL
    intro many H2 m0 m1 hb2 s2
    k_subL
    intro wh H3 w0 w1 hb3 s3
    k_subL
    intro dp H4 d0 d1 hb4 s4
    k_subL
    intro g cg H5 hg fg hb5 s5
    k_subL
    intro p xs H6 pb hx hlen hall hb6 s6
    have hg6 := hg.but hb5 s6
    dsimp only [gName]
    refine Hk.seq_rest (fun σ' H' => σ' = [some (.ref a), some (.ref b), some (.int many), some (.int wh), some (.int (1 + dp)), some g, some (.ref p), some g, none, none, none, none] ∧ H6 = H') (fun nx hnx => ?_) ?_
    · k_subL
      exact hnx _ _ ⟨rfl, rfl⟩
    rintro _ _ ⟨rfl, rfl⟩
    refine Hk.seq_rest (fun σ' H' => ∃ u cu, σ' = [some (.ref a), some (.ref b), some (.int many), some (.int wh), some (.int (1 + dp)), some g, some (.ref p), some u, none, none, none, none] ∧ CeAt K H' cg g ∧ CeAt K H' cu u ∧ BoxAt H' b l ∧ H' p = some (.lst xs) ∧ ∀ x ∈ xs, WrapAt K H' x) (fun nx hnx => ?_) ?_
    · k_subL
      refine ite2 (fun e => ?_) (fun e => ?_)
      · k_subL
        intro u cu H7 hu hb7 s7
        exact hnx _ _ ⟨u, cu, rfl, hg6.but hb6 s7, hu, hb7, s7 _ _ hx pb, fun x hx' => (hall x hx').but hb6 s7⟩
      · k_subL
        exact hnx _ _ ⟨g, cg, rfl, hg6, hg6, hb6, hx, hall⟩
    clear hx hall hg6 hb6
    rintro σ' H7 ⟨u, cu, rfl, hg7, hu7, hb7, hx7, hall7⟩
    refine Hk.seq_rest (fun σ' H' => ∃ g u cg cu o8, σ' = [some (.ref a), some (.ref b), some (.int many), some (.int wh), some (.int (1 + dp)), some g, some (.ref p), some u, o8, none, none, none] ∧ CeAt K H' cg g ∧ CeAt K H' cu u) (fun nx hnx => ?_) ?_
    · refine Hk.tfor_rng (lo := 0) (n := many.toNat) (fun i σ' H' => ∃ g u cg cu o8, σ' = [some (.ref a), some (.ref b), some (.int many), some (.int wh), some (.int (1 + dp)), some g, some (.ref p), some u, o8, none, none, none] ∧ CeAt K H' cg g ∧ CeAt K H' cu u ∧ BoxAt H' b l ∧ H' p = some (.lst xs) ∧ ∀ x ∈ xs, WrapAt K H' x) (fun R hR => ?_) ⟨g, u, cg, cu, none, rfl, hg7, hu7, hb7, hx7, hall7⟩ (fun i σ' H' nx2 hi hp hnx2 => ?_) (fun σ' H' hp => ?_)
      · have r1 : -(2 ^ 62 : Int) ≤ many := by omega
        have r2 : many < (2 ^ 62 : Int) := by omega
        k_subL
        exact hR
      · obtain ⟨g, u, cg, cu, o8, rfl, h1, h2, h3, h4, h5⟩ := hp
        have hix : i < xs.length := by omega
        have ax : atI xs (0 + (i : Int)) = some xs[i] := by rw [Int.zero_add]; exact atI_nat (List.getElem?_eq_getElem hix)
        have hwx := h5 _ (List.getElem_mem hix)
        have hl4 : SqL K H' p xs := .inl (.inl h4)
        k_subL
        intro g2 cg2 H8 s8 hg2 fg2
        have h2' := h2.mono s8
        have hwx2 := hwx.mono s8
        have hl8 : SqL K H8 p xs := .inl (.inl (s8 _ _ h4))
        k_subL
        intro u2 cu2 H9 s9 hu2 fu2
        have hb9 := (h3.same s8).same s9
        have hx9 := s9 _ _ (s8 _ _ h4)
        have hg9 := hg2.mono s9
        have ha9 : ∀ x ∈ xs, WrapAt K H9 x := fun x hx => ((h5 x hx).mono s8).mono s9
        k_subL
        refine ite2 (fun e => ?_) (fun e => ?_)
        · k_subL
          intro u3 cu3 H10 hu3 hb10 s10
          exact hnx2 _ _ ⟨g2, u3, cg2, cu3, _, rfl, hg9.but hb9 s10, hu3, hb10, s10 _ _ hx9 pb, fun x hx => (ha9 x hx).but hb9 s10⟩
        · k_subL
          exact hnx2 _ _ ⟨g2, u2, cg2, cu2, _, rfl, hg9, hu2, hb9, hx9, ha9⟩
      · obtain ⟨g, u, cg, cu, o8, rfl, h1, h2, h3, h4, h5⟩ := hp
        exact hnx _ _ ⟨g, u, cg, cu, o8, rfl, h1, h2⟩
    clear hg7 hu7 hb7 hx7 hall7
    rintro σ' H8 ⟨g, u, cg, cu, o8, rfl, hg8, hu8⟩
    refine Hk.seq_rest (fun σ' H' => ∃ σ0, σ' = σ0) (fun nx hnx => ?_) ?_
    · refine tfor_any (K := K) (fun q ys H' => H' q = some (.lst ys) ∧ ∀ y ∈ ys, ∃ c, CeAt K H' c y) (fun R hR => ?_) (fun q ys i σ' H' => H' q = some (.lst ys) ∧ (∀ y ∈ ys, ∃ c, CeAt K H' c y) ∧ ∃ o9 o10 o11, σ' = [some (.ref a), some (.ref b), some (.int many), some (.int wh), some (.int (1 + dp)), some g, some (.ref p), some u, o8, o9, o10, o11]) (fun q ys H1 hS => ?_) (fun q ys i σ' H' hp => ?_) (fun q ys i y σ' H' nx2 hi hp hnx2 => ?_) (fun q ys σ' H' hp => ?_)
      · k_subL
        intro q nq
        have sq : Same H8 _ := Hk.same_upd (o := .lst [g, u, g]) nq
        refine ⟨q, rfl, ⟨_, .inl (.inl upd_same)⟩, hR q [g, u, g] _ ⟨upd_same, fun y hy => ?_⟩⟩
        rcases List.mem_cons.mp hy with rfl | hy
        · exact ⟨cg, hg8.mono sq⟩
        rcases List.mem_cons.mp hy with rfl | hy
        · exact ⟨cu, hu8.mono sq⟩
        · rw [List.mem_singleton.mp hy]
          exact ⟨cg, hg8.mono sq⟩
      · exact ⟨hS.1, hS.2, none, none, none, rfl⟩
      · exact .inl (.inl hp.1)
      · obtain ⟨h1, h2, o9, o10, o11, rfl⟩ := hp
        obtain ⟨c, hc⟩ := h2 y (List.mem_of_getElem? hi)
        dsimp only [gName]
        refine Hk.seq_rest (fun σ' H' => H' q = some (.lst ys) ∧ (∀ y ∈ ys, ∃ c, CeAt K H' c y) ∧ CeAt K H' c y ∧ ∃ o10 o11, σ' = [some (.ref a), some (.ref b), some (.int many), some (.int wh), some (.int (1 + dp)), some g, some (.ref p), some u, o8, some y, o10, o11]) (fun nx3 hnx3 => ?_) ?_
        · refine Hk.tfor_rng (lo := 1) (n := 10) (H1 := H') (fun j σ' H' => H' q = some (.lst ys) ∧ (∀ y ∈ ys, ∃ c, CeAt K H' c y) ∧ CeAt K H' c y ∧ ∃ o10 o11, σ' = [some (.ref a), some (.ref b), some (.int many), some (.int wh), some (.int (1 + dp)), some g, some (.ref p), some u, o8, some y, o10, o11]) (fun R hR => ?_) ⟨h1, h2, hc, _, _, rfl⟩ (fun j σ' H2 nx4 hj hp hnx4 => ?_) (fun σ' H2 hp => ?_)
          · k_subL
            exact hR
          · obtain ⟨g1, g2, g3, o10, o11, rfl⟩ := hp
            have lo1 : (0 : Int) ≤ 1 + (j : Int) := by omega
            have hi1 : 1 + (j : Int) ≤ 10 := by omega
            k_subL
            intro H3' s3'
            have g3' := g3.mono s3'
            k_subL
            intro H4' s4'
            k_subL
            exact hnx4 _ _ ⟨s4' _ _ (s3' _ _ g1), fun y hy => let ⟨c, q⟩ := g2 y hy; ⟨c, (q.mono s3').mono s4'⟩, g3'.mono s4', _, _, rfl⟩
          · exact hnx3 _ _ hp
        · rintro σ' H2 ⟨g1, g2, g3, o10, o11, rfl⟩
          refine Hk.tfor_rng (lo := 0) (n := 3) (H1 := H2) (fun j σ' H' => H' q = some (.lst ys) ∧ (∀ y ∈ ys, ∃ c, CeAt K H' c y) ∧ CeAt K H' c y ∧ ∃ o11, σ' = [some (.ref a), some (.ref b), some (.int many), some (.int wh), some (.int (1 + dp)), some g, some (.ref p), some u, o8, some y, o10, o11]) (fun R hR => ?_) ⟨g1, g2, g3, _, rfl⟩ (fun j σ' H3' nx4 hj hp hnx4 => ?_) (fun σ' H3' hp => ?_)
          · k_subL
            exact hR
          · obtain ⟨g1, g2, g3, o11, rfl⟩ := hp
            have lo1 : (0 : Int) ≤ 1 + dp := by omega
            have hi1 : 1 + dp ≤ 10 := by omega
            have lo2 : (0 : Int) ≤ 0 + (j : Int) := by omega
            have hi2 : 0 + (j : Int) < 3 := by omega
            k_subL
            intro H4' s4'
            k_subL
            exact hnx4 _ _ ⟨s4' _ _ g1, fun y hy => let ⟨c, q⟩ := g2 y hy; ⟨c, q.mono s4'⟩, g3.mono s4', _, rfl⟩
          · obtain ⟨g1, g2, g3, o11, rfl⟩ := hp
            exact hnx2 _ _ ⟨g1, g2, _, _, _, rfl⟩
      · exact hnx _ _ ⟨_, rfl⟩
    rintro σ' H9 _
    k_subL
    exact qq _
end
end K02


end
section
set_option Elab.async false
set_option linter.all false
set_option maxRecDepth 100000
set_option maxHeartbeats 4000000
namespace K02
open PySem PySem.Spec PyProof.Rows L2
open He (ga ma ba)
theorem facts {P : Program} {w : World} {K : PySem.W.Frag} {h : Heap} {mg : Str → Option Value} {f : Addr} (X : K.In h) (G : h.Ns mainGlobals mg) (hfa : mg ("law" : Str) = some (.ref f)) (c : Hk.SaysW ex fn tabs w K) :
    ∃ fd : FuncData, (∀ (s : Shared) (v : Value), BindsTo s fd ⟨[v], []⟩ [("_law_script", v)]) ∧ ∀ base : Heap, K.In base → base.Ns mainGlobals mg → FnOk P w K mg base CX0 15 f fd ["_law_script"] (sp_law K) := by
  have T : Txt w K mg := ⟨c, Hk.nsAll_of X G⟩
  have e := hfa.symm.trans T.g_law
  cases e
  obtain ⟨fd, F⟩ := T.f_law
  exact ⟨fd, fun s v => FunD.bindsA (ps := ["_law_script"]) F (fun _ _ _ _ _ _ us hl => match us, hl with | [_], _ => rfl) s [v] rfl, fun base _ _ => run_law T F⟩
end K02
open PySem PySem.W PySem.Calls PyProof.Rows
set_option maxHeartbeats 0 in
theorem PySem.Challenge.cw_bookstogether_k02_conditions_checked_holds : PySem.Challenge.rw_bookstogether_k02_conditions_checked.Holds := by
  w_on; o_law
  refine HandSHeadRun.head_any (r := OpenLaw.row PySem.Challenge.rw_bookstogether_k02_conditions_checked) (q := view (OpenLaw.row PySem.Challenge.rw_bookstogether_k02_conditions_checked).prog [20]) (H := K02.hk) (ob := K02.ob) (M := 6000) (loose := K02.loose) (d := HandSHeadRun.topDef (OpenLaw.row PySem.Challenge.rw_bookstogether_k02_conditions_checked).prog 20) (kwd := []) K02.ob_eq
    (by kernel_rfl) (fun s => by kernel_rfl) K02.run (by kernel_rfl) (by kernel_rfl) (by kernel_rfl) (by rfl) (by first | assumption | decide +kernel) (by decide +kernel) ⟨rfl, rfl, rfl, rfl, rfl, by decide +kernel⟩ ?hw ?hc
  case hw => w_witness2
  case hc =>
    refine L2.walk_ofE (l := PySem.Challenge.rw_bookstogether_k02_conditions_checked) (n := 63) (k := 15) (x := "_law_script") (CX := L2.CX0) rfl (by decide) (by kernel_rfl) ⟨rfl, by decide, by decide⟩ ?F (fun _ _ _ _ z => z)
    intro w mg fa h Y G hmg0
    obtain ⟨K, KX, c⟩ := Y
    have hmg : mg ("law" : PySem.Str) = some (.ref fa) := by
      have e : (HandSHeadRun.topDef (OpenLaw.row PySem.Challenge.rw_bookstogether_k02_conditions_checked).prog 20).name = ("law" : PySem.Str) := by kernel_rfl
      rw [← e]
      exact hmg0
    obtain ⟨fd, hb, hF⟩ := K02.facts (P := (PySem.Challenge.rw_bookstogether_k02_conditions_checked).prog) (w := w) KX G hmg c
    exact ⟨K, fd, K02.sp_law K, KX, hb, fun H a ns hl _ hS => ⟨a, ns, rfl, hS, hl, fun _ => rfl⟩, hF⟩

end
